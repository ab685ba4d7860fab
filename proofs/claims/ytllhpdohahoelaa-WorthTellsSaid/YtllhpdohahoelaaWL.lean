/- A ledger and worths that lie apart; what an operation of the law's makes of them; the contract of the law's do.
  The contract of the law's awake.
  What comes in: postings, operations; the contract of the law's large. -/
import Derived.Test.YtllhpdohahoelaaWE
import Derived.Test.YtllhpdohahoelaaLI1
import Derived.Test.YtllhpdohahoelaaWJ
import Derived.Deep.Slices
import Derived.Test.YtllhpdohahoelaaRows
import Derived.ProofKit
import Derived.OpenShut
namespace Go.Proofs.Ytllhpdohahoelaa
open Go.RowKit
set_option linter.unusedVariables false

/-- a call of the first one's that reads the second one -/
theorem Apart.call2 {α : Type} {G : Nat → Prop} {X Y : (Nat → Prop) → World → Prop} {X' : α → (Nat → Prop) → World → Prop} {φ : α → Ending → Prop} {w : World} {f : FuncId} {args : Array Value}
    (lX : Live X) (lX' : ∀ x, Live (X' x)) (lY : Live Y) (hG : ∀ j, G j → j < w.heap.size) (h : Apart G X Y w)
    (hc : ∀ P Q : Nat → Prop, X P w → Y Q w → (∀ i, w.heap.size ≤ i → P i) → (∀ j, Q j → ¬ P j) → Calls Try.prog f args w fun e w' => ∃ x, φ x e ∧ X' x P w' ∧ Kp P w w') :
    Calls Try.prog f args w fun e w' => ∃ x, φ x e ∧ Apart G (X' x) Y w' ∧ Kp (fun j => ¬ G j) w w' := by
  obtain ⟨PF, RF, hX, hY, h1, h2⟩ := h
  refine (hc (fun j => PF j ∨ w.heap.size ≤ j) RF (lX.weak hX fun j _ hj => .inl hj) hY (fun i hi => .inr hi) (fun j hr hp => by
    rcases hp with hp | hp
    · exact (h1 j hp).1 hr
    · have := (h2 j hr).2; omega)).mono ?_
  rintro e w' ⟨x, he, hx, hK⟩
  refine ⟨x, he, ⟨fun j => (PF j ∨ w.heap.size ≤ j) ∧ j < w'.heap.size, RF, (lX' x).weak hx fun j hl hj => ⟨hj, hl⟩, lY.kept hY hK fun j hl hr hp => ?_, fun j hj => ⟨fun hr => ?_, fun hg => ?_, hj.2⟩, fun j hj => ⟨(h2 j hj).1, Nat.lt_of_lt_of_le (h2 j hj).2 hK.size⟩⟩, hK.mono fun j hl hp hg => ?_⟩
  · rcases hp with hp | hp
    · exact (h1 j hp).1 hr
    · omega
  · rcases hj.1 with hp | hp
    · exact (h1 j hp).1 hr
    · have := (h2 j hr).2; omega
  · rcases hj.1 with hp | hp
    · exact (h1 j hp).2.1 hg
    · have := hG j hg; omega
  · rcases hp with hp | hp
    · exact (h1 j hp).2.1 hg
    · omega
theorem Apart.less {G G' : Nat → Prop} {X Y : (Nat → Prop) → World → Prop} {w : World} (h : Apart G' X Y w) (hG : ∀ j, G j → G' j) : Apart G X Y w := by
  obtain ⟨PF, RF, hX, hY, h1, h2⟩ := h
  exact ⟨PF, RF, hX, hY, fun j hj => ⟨(h1 j hj).1, fun hg => (h1 j hj).2.1 (hG j hg), (h1 j hj).2.2⟩, fun j hj => ⟨fun hg => (h2 j hj).1 (hG j hg), (h2 j hj).2⟩⟩

/-- an operation -/
structure WOp where
  Do : Int
  m : Int
  c : Int
  a : Int
  p : Option Addr
  len : Nat
  cap : Nat
  ps : List Pst
def WOp.arr (o : WOp) : Array Value := #[.int .i64 o.Do, .int .i64 o.m, .int .i64 o.c, .int .i64 o.a, .slice o.p o.len o.cap]
structure WOp.Ok (o : WOp) (w : World) : Prop where
  a : In64 o.a
  b : PRow w o.p o.len o.ps
/-- k members are taken anew -/
def WM.all (x : WM) (l : LM) (k : Nat) : WM := ⟨x.cs, x.nm, fun a => if a < k then l.row a else x.S a⟩
/-- what an operation tells, and makes of a ledger and of worths -/
noncomputable def opW (l : LM) (x : WM) (o : WOp) : Int × LM × WM :=
  if o.Do = 0 then ((l.inn o.m o.c o.a).1, (l.inn o.m o.c o.a).2, x.moved (l.inn o.m o.c o.a).2 o.m)
  else if o.Do = 4 then ((l.inn o.m o.c o.a).1, (l.inn o.m o.c o.a).2, x)
  else if o.Do = 1 then ((l.post o.ps).1, (l.post o.ps).2, x.all (l.post o.ps).2 x.nm)
  else if o.Do = 2 then ((x.rate o.c o.a).1, l, (x.rate o.c o.a).2)
  else if o.Do = 3 then ((x.cutt o.c o.a).1, l, (x.cutt o.c o.a).2)
  else (0, l, x.moved l o.m)
theorem all_zero (x : WM) (l : LM) : x.all l 0 = x := by unfold WM.all; simp
theorem all_step (x : WM) (l : LM) {k : Nat} (hk : k < x.nm) : (x.all l k).moved l (k : Int) = x.all l (k + 1) := by
  unfold WM.moved WM.has WM.all
  dsimp only
  rw [if_pos (by simp; omega), Int.toNat_natCast]
  congr 1
  funext a
  by_cases e : a = k
  · subst e; rw [if_pos rfl, if_pos (by omega)]
  · rw [if_neg e]
    by_cases e2 : a < k
    · rw [if_pos e2, if_pos (by omega)]
    · rw [if_neg e2, if_neg (by omega)]
theorem all_nm (x : WM) (l : LM) (k : Nat) : (x.all l k).nm = x.nm := rfl

/-- a ledger and worths of it, behind what stays -/
structure WSt (G : Nat → Prop) (lb b : Nat) (l : LM) (x : WM) (w : World) : Prop where
  ap : Apart G (fun P w => WP P w b lb x) (fun P w => PL P w lb l) w
  good : l.Good
  lt : ∀ j, G j → j < w.heap.size
section
variable {G : Nat → Prop} {lb b : Nat} {l : LM} {x : WM} {w w' : World}
theorem WSt.below (h : WSt G lb b l x w) (hb : Below w.heap.size w w') : WSt G lb b l x w' := ⟨h.ap.below (WP.live b lb x) (PL.live lb l) hb, h.good, fun j hj => Nat.lt_of_lt_of_le (h.lt j hj) hb.size⟩
theorem WSt.wp (h : WSt G lb b l x w) : ∃ P, WP P w b lb x := by obtain ⟨PF, RF, hX, hY, _⟩ := h.ap; exact ⟨PF, hX⟩
theorem WSt.pl (h : WSt G lb b l x w) : ∃ P, PL P w lb l := by obtain ⟨PF, RF, hX, hY, _⟩ := h.ap; exact ⟨RF, hY⟩
def DoneW (G : Nat → Prop) (lb b : Nat) (r : Int × LM × WM) (w : World) (e : Ending) (w' : World) : Prop := e = .returned (.int .i64 r.1) ∧ WSt G lb b r.2.1 r.2.2 w' ∧ Kp (fun j => ¬ G j) w w'
theorem WSt.inn (h : WSt G lb b l x w) (m c a : Int) (ha : In64 a) : Calls Try.prog 26 #[.pointer (some ⟨lb, 0, none⟩), .int .i64 m, .int .i64 c, .int .i64 a] w (DoneW G lb b ((l.inn m c a).1, (l.inn m c a).2, x) w) := by
  refine (h.ap.swap.call (α := Unit) (X' := fun _ P w => PL P w lb (l.inn m c a).2) (φ := fun _ e => e = .returned (.int .i64 (l.inn m c a).1)) (PL.live lb l) (fun _ => PL.live lb _) (WP.live b lb x) h.lt fun P hP hf => (in_any P lb l m c a w hP h.good ha hf).mono fun e w' ⟨h1, h2, h3⟩ => ⟨(), h1, h2, h3⟩).mono ?_
  rintro e w' ⟨_, he, hA, hK⟩
  exact ⟨he, ⟨hA.swap, (inn_good h.good m c a).1, fun j hj => Nat.lt_of_lt_of_le (h.lt j hj) hK.size⟩, hK⟩
theorem WSt.post (h : WSt G lb b l x w) (p : Option Addr) (len cap : Nat) (ps : List Pst) (hr : PRow w p len ps) (hl : len ≤ 30) : Calls Try.prog 27 #[.pointer (some ⟨lb, 0, none⟩), .slice p len cap] w (DoneW G lb b ((l.post ps).1, (l.post ps).2, x) w) := by
  refine (h.ap.swap.call (α := Unit) (X' := fun _ P w => PL P w lb (l.post ps).2) (φ := fun _ e => e = .returned (.int .i64 (l.post ps).1)) (PL.live lb l) (fun _ => PL.live lb _) (WP.live b lb x) h.lt fun P hP hf => (post_any P lb l p len cap ps w hP h.good hr hl hf).mono fun e w' ⟨h1, h2, h3⟩ => ⟨(), h1, h2, h3⟩).mono ?_
  rintro e w' ⟨_, he, hA, hK⟩
  exact ⟨he, ⟨hA.swap, (post_good h.good ps).1, fun j hj => Nat.lt_of_lt_of_le (h.lt j hj) hK.size⟩, hK⟩
theorem WSt.moved (h : WSt G lb b l x w) (m : Int) : Calls Try.prog 33 #[.pointer (some ⟨b, 0, none⟩), .int .i64 m] w fun e w' => e = .returned (.tuple #[]) ∧ WSt G lb b l (x.moved l m) w' ∧ Kp (fun j => ¬ G j) w w' := by
  refine (h.ap.call2 (α := Unit) (X' := fun _ P w => WP P w b lb (x.moved l m)) (φ := fun _ e => e = .returned (.tuple #[])) (WP.live b lb x) (fun _ => WP.live b lb _) (PL.live lb l) h.lt fun P Q hP hQ hf hd => (moved_any m w hQ h.good hP hd).mono fun e w' ⟨h1, h2, h3⟩ => ⟨(), h1, h2, h3⟩).mono ?_
  rintro e w' ⟨_, he, hA, hK⟩
  exact ⟨he, ⟨hA, h.good, fun j hj => Nat.lt_of_lt_of_le (h.lt j hj) hK.size⟩, hK⟩
theorem WSt.rate (h : WSt G lb b l x w) (c a : Int) (ha : In64 a) : Calls Try.prog 28 #[.pointer (some ⟨b, 0, none⟩), .int .i64 c, .int .i64 a] w (DoneW G lb b ((x.rate c a).1, l, (x.rate c a).2) w) := by
  refine (h.ap.call (α := Unit) (X' := fun _ P w => WP P w b lb (x.rate c a).2) (φ := fun _ e => e = .returned (.int .i64 (x.rate c a).1)) (WP.live b lb x) (fun _ => WP.live b lb _) (PL.live lb l) h.lt fun P hP hf => (rate_any c a w hP ha hf).mono fun e w' ⟨h1, h2, h3⟩ => ⟨(), h1, h2, h3⟩).mono ?_
  rintro e w' ⟨_, he, hA, hK⟩
  exact ⟨he, ⟨hA, h.good, fun j hj => Nat.lt_of_lt_of_le (h.lt j hj) hK.size⟩, hK⟩
theorem WSt.cutt (h : WSt G lb b l x w) (c a : Int) (ha : In64 a) : Calls Try.prog 25 #[.pointer (some ⟨b, 0, none⟩), .int .i64 c, .int .i64 a] w (DoneW G lb b ((x.cutt c a).1, l, (x.cutt c a).2) w) := by
  refine (h.ap.call (α := Unit) (X' := fun _ P w => WP P w b lb (x.cutt c a).2) (φ := fun _ e => e = .returned (.int .i64 (x.cutt c a).1)) (WP.live b lb x) (fun _ => WP.live b lb _) (PL.live lb l) h.lt fun P hP hf => (cutt_any c a w hP ha hf).mono fun e w' ⟨h1, h2, h3⟩ => ⟨(), h1, h2, h3⟩).mono ?_
  rintro e w' ⟨_, he, hA, hK⟩
  exact ⟨he, ⟨hA, h.good, fun j hj => Nat.lt_of_lt_of_le (h.lt j hj) hK.size⟩, hK⟩
end
/-- an operation's box -/
def OB (w : World) (k : Nat) (o : WOp) : Prop := w.heap[k]? = some (.cells o.arr 40 (0, 0))
theorem OB.cells {w : World} {k : Nat} {o : WOp} (h : OB w k o) : w.cell? ⟨k, 0, none⟩ = some (.int .i64 o.Do) ∧ w.cell? ⟨k, 1, none⟩ = some (.int .i64 o.m) ∧ w.cell? ⟨k, 2, none⟩ = some (.int .i64 o.c) ∧ w.cell? ⟨k, 3, none⟩ = some (.int .i64 o.a) ∧ w.cell? ⟨k, 4, none⟩ = some (.slice o.p o.len o.cap) :=
  ⟨obj_cell h rfl, obj_cell h rfl, obj_cell h rfl, obj_cell h rfl, obj_cell h rfl⟩
theorem OB.kept {w w' : World} {k : Nat} {o : WOp} {G : Nat → Prop} (h : OB w k o) (hK : Kp (fun j => ¬ G j) w w') (hg : G k) : OB w' k o := (hK.block _ (obj_lt h) (fun e => e hg)).trans h
theorem WSt.less {G G' : Nat → Prop} {lb b : Nat} {l : LM} {x : WM} {w : World} (h : WSt G' lb b l x w) (hG : ∀ j, G j → G' j) : WSt G lb b l x w := ⟨h.ap.less hG, h.good, fun j hj => h.lt j (hG j hj)⟩
theorem WSt.more {G G' : Nat → Prop} {lb b : Nat} {l : LM} {x : WM} {w w' : World} (h : WSt G lb b l x w) (hb : Below w.heap.size w w') (hG : ∀ j, j < w.heap.size → G' j → G j) (hl : ∀ j, G' j → j < w'.heap.size) : WSt G' lb b l x w' := ⟨h.ap.more (WP.live b lb x) (PL.live lb l) hb hG, h.good, hl⟩

/-- Post's way behind it: k members are taken -/
structure DSt (G : Nat → Prop) (w : World) (lb b : Nat) (l : LM) (x : WM) (o : WOp) (k0 k : Nat) (wr : World) : Prop where
  st : WSt G lb b l (x.all l k) wr
  box : OB wr k0 o
  kp : Kp (fun j => ¬ G j) w wr

set_option maxHeartbeats 8000000 in
set_option maxRecDepth 100000 in
theorem dow_any {G : Nat → Prop} {lb b : Nat} {l : LM} {x : WM} (o : WOp) (w : World) (h : WSt G lb b l x w) (ho : o.Ok w) (hlen : o.len ≤ 30) (hn16 : x.nm ≤ 16) :
    Calls Try.prog 13 #[.pointer (some ⟨lb, 0, none⟩), .pointer (some ⟨b, 0, none⟩), .int .i64 (x.nm : Int), .agg o.arr] w (DoneW G lb b (opW l x o) w) := by
  have hB : Below w.heap.size w (w.alloc (.cells o.arr 40)) := (Below.refl _ _).alloc (Nat.le_refl _) _
  have hbx : OB (w.alloc (.cells o.arr 40)) w.heap.size o := heap_alloc_new w _
  obtain ⟨H, hH⟩ : ∃ H : Nat → Prop, ∀ j, H j ↔ G j ∨ j = w.heap.size := ⟨_, fun j => Iff.rfl⟩
  have h1 : WSt H lb b l x (w.alloc (.cells o.arr 40)) := h.more hB (fun j hj hg => by rcases (hH j).1 hg with hg | hg; exact hg; omega) (fun j hj => by
    rcases (hH j).1 hj with hj | rfl
    · have := h.lt j hj; simp; omega
    · simp)
  have hend : ∀ (e : Ending) (r : Int × LM × WM) (w' : World), r = opW l x o → e = .returned (.int .i64 r.1) → WSt H lb b r.2.1 r.2.2 w' → Kp (fun j => ¬ H j) (w.alloc (.cells o.arr 40)) w' → DoneW G lb b (opW l x o) w e w' := fun e r w' h1 h2 h3 h4 => by
    rw [← h1]
    exact ⟨h2, h3.less fun j hj => (hH j).2 (.inl hj), (Kp.of_below hB).trans (h4.mono fun j hj hg hgg => hg ((hH j).2 (.inl hgg)))⟩
  have hrow := ho.b.kept hB
  have hg0 : H w.heap.size := (hH _).2 (.inr rfl)
  generalize hv : w.alloc (.cells o.arr 40) = v at *
  clear hH
  obtain ⟨z0, z1, z2, z3, z4⟩ := hbx.cells
  unfold WOp.arr at hv ⊢
  have ha := ho.a
  replace ho := Lib.hid ho
  replace h := Lib.hid h
  replace hend := Lib.hid hend
  replace hrow := Lib.hid hrow
  replace hv := Lib.hid hv
  replace hB := Lib.hid hB
  replace hg0 := Lib.hid hg0
  by_cases d0 : o.Do = 0
  · have b0 : (o.Do == 0) = true := by simpa using d0
    have cI := h1.inn o.m o.c o.a ha
    have eop : (((l.inn o.m o.c o.a).1, (l.inn o.m o.c o.a).2, x.moved (l.inn o.m o.c o.a).2 o.m) : Int × LM × WM) = opW l x o := by unfold opW; rw [if_pos d0]
    generalize l.inn o.m o.c o.a = R at *
    replace cI := Lib.hid cI
    replace h1 := Lib.hid h1
    replace eop := Lib.hid eop
    replace hbx := Lib.hid hbx
    replace d0 := Lib.hid d0
    go_enter Try.func13, Try.ntmps13
    go_upto_region 1 with (fail)
    rw [hv.out]
    go_upto_region 5 with (first | (go_at_call 26; (with_reducible refine cI.out.mono ?_); rintro e w1 ⟨rfl, hS1, hK1⟩))
    have hbx1 := hbx.out.kept hK1 hg0.out
    obtain ⟨y0, y1, y2, y3, y4⟩ := hbx1.cells
    have cM := hS1.moved o.m
    replace cM := Lib.hid cM
    replace hS1 := Lib.hid hS1
    replace hbx1 := Lib.hid hbx1
    go_wp2_with (first | (go_at_call 33; (with_reducible refine cM.out.mono ?_); rintro e w2 ⟨rfl, hS2, hK2⟩; replace hS2 := Lib.hid hS2; replace hK2 := Lib.hid hK2))
    go_ret
    exact hend.out _ _ _ eop.out rfl hS2.out (hK1.trans hK2.out)
  have b0 : (o.Do == 0) = false := by simpa using d0
  by_cases d4 : o.Do = 4
  · have b4 : (o.Do == 4) = true := by simpa using d4
    have cI := h1.inn o.m o.c o.a ha
    have eop : (((l.inn o.m o.c o.a).1, (l.inn o.m o.c o.a).2, x) : Int × LM × WM) = opW l x o := by unfold opW; rw [if_neg d0, if_pos d4]
    generalize l.inn o.m o.c o.a = R at *
    replace cI := Lib.hid cI
    replace h1 := Lib.hid h1
    replace eop := Lib.hid eop
    replace hbx := Lib.hid hbx
    replace d0 := Lib.hid d0
    replace d4 := Lib.hid d4
    go_enter Try.func13, Try.ntmps13
    go_upto_region 1 with (fail)
    rw [hv.out]
    go_upto_region 5 with (first | (go_at_call 26; (with_reducible refine cI.out.mono ?_); rintro e w1 ⟨rfl, hS1, hK1⟩))
    have hbx1 := hbx.out.kept hK1 hg0.out
    obtain ⟨y0, y1, y2, y3, y4⟩ := hbx1.cells
    replace hS1 := Lib.hid hS1
    replace hK1 := Lib.hid hK1
    replace hbx1 := Lib.hid hbx1
    go_wp2_with fail
    go_ret
    exact hend.out _ _ _ eop.out rfl hS1.out hK1.out
  have b4 : (o.Do == 4) = false := by simpa using d4
  by_cases d1 : o.Do = 1
  · have b1 : (o.Do == 1) = true := by simpa using d1
    have cP := h1.post o.p o.len o.cap o.ps hrow.out hlen
    have eop : (((l.post o.ps).1, (l.post o.ps).2, x.all (l.post o.ps).2 x.nm) : Int × LM × WM) = opW l x o := by unfold opW; rw [if_neg d0, if_neg d4, if_pos d1]
    generalize l.post o.ps = R at *
    replace cP := Lib.hid cP
    replace h1 := Lib.hid h1
    replace eop := Lib.hid eop
    replace hbx := Lib.hid hbx
    replace d0 := Lib.hid d0
    replace d4 := Lib.hid d4
    replace d1 := Lib.hid d1
    go_enter Try.func13, Try.ntmps13
    go_upto_region 1 with (fail)
    rw [hv.out]
    go_upto_region 11 with (first | (go_at_call 27; (with_reducible refine cP.out.mono ?_); rintro e w1 ⟨rfl, hS1, hK1⟩))
    have hS0 : DSt H v lb b R.2 x o w.heap.size 0 w1 := ⟨by rw [all_zero]; exact hS1, hbx.out.kept hK1 hg0.out, hK1⟩
    replace hS1 := Lib.hid hS1
    replace hK1 := Lib.hid hK1
    replace hS0 := Lib.hid hS0
    go_loopw [11] (fun i wr => ∃ k : Nat, k ≤ x.nm ∧ i = .int .i64 (k : Int) ∧ Hid (DSt H v lb b R.2 x o w.heap.size k wr)) (fun i _ => x.nm - (intOf i).toNat)
    case atStart => exact ⟨0, by omega, rfl, hS0⟩
    case round =>
      obtain ⟨k, hk, rfl, hS⟩ := hrel
      by_cases hkl : k < x.nm
      · have hkz : (k : Int) < (x.nm : Int) := by omega
        have cM := hS.out.st.moved (k : Int)
        rw [all_step x R.2 hkl] at cM
        replace cM := Lib.hid cM
        go_wp2_with (first | (go_at_call 33; (with_reducible refine cM.out.mono ?_); rintro e w2 ⟨rfl, hS2, hK2⟩; have hS3 : Hid (DSt H v lb b R.2 x o w.heap.size (k + 1) w2) := Lib.hid ⟨hS2, hS.out.box.kept hK2 hg0.out, hS.out.kp.trans hK2⟩; replace hS2 := Lib.hid hS2; replace hK2 := Lib.hid hK2))
        go_roundw
        case rel => exact ⟨k + 1, by omega, by go_num, hS3⟩
        case measure => simp [intOf]; omega
      · obtain rfl : k = x.nm := by omega
        have hkz : ¬ (x.nm : Int) < (x.nm : Int) := by omega
        go_wp2_with fail
        go_ret
        exact hend.out _ _ _ eop.out rfl hS.out.st hS.out.kp
  have b1 : (o.Do == 1) = false := by simpa using d1
  by_cases d2 : o.Do = 2
  · have b2 : (o.Do == 2) = true := by simpa using d2
    have cR := h1.rate o.c o.a ha
    have eop : (((x.rate o.c o.a).1, l, (x.rate o.c o.a).2) : Int × LM × WM) = opW l x o := by unfold opW; rw [if_neg d0, if_neg d4, if_neg d1, if_pos d2]
    generalize x.rate o.c o.a = R at *
    replace cR := Lib.hid cR
    replace h1 := Lib.hid h1
    replace eop := Lib.hid eop
    replace hbx := Lib.hid hbx
    replace d0 := Lib.hid d0
    replace d4 := Lib.hid d4
    replace d1 := Lib.hid d1
    replace d2 := Lib.hid d2
    go_enter Try.func13, Try.ntmps13
    go_upto_region 1 with (fail)
    rw [hv.out]
    go_wp2_with (first | (go_at_call 28; (with_reducible refine cR.out.mono ?_); rintro e w1 ⟨rfl, hS1, hK1⟩; replace hS1 := Lib.hid hS1; replace hK1 := Lib.hid hK1))
    go_ret
    exact hend.out _ _ _ eop.out rfl hS1.out hK1.out
  have b2 : (o.Do == 2) = false := by simpa using d2
  by_cases d3 : o.Do = 3
  · have b3 : (o.Do == 3) = true := by simpa using d3
    have cR := h1.cutt o.c o.a ha
    have eop : (((x.cutt o.c o.a).1, l, (x.cutt o.c o.a).2) : Int × LM × WM) = opW l x o := by unfold opW; rw [if_neg d0, if_neg d4, if_neg d1, if_neg d2, if_pos d3]
    generalize x.cutt o.c o.a = R at *
    replace cR := Lib.hid cR
    replace h1 := Lib.hid h1
    replace eop := Lib.hid eop
    replace hbx := Lib.hid hbx
    replace d0 := Lib.hid d0
    replace d4 := Lib.hid d4
    replace d1 := Lib.hid d1
    replace d2 := Lib.hid d2
    replace d3 := Lib.hid d3
    go_enter Try.func13, Try.ntmps13
    go_upto_region 1 with (fail)
    rw [hv.out]
    go_wp2_with (first | (go_at_call 25; (with_reducible refine cR.out.mono ?_); rintro e w1 ⟨rfl, hS1, hK1⟩; replace hS1 := Lib.hid hS1; replace hK1 := Lib.hid hK1))
    go_ret
    exact hend.out _ _ _ eop.out rfl hS1.out hK1.out
  have b3 : (o.Do == 3) = false := by simpa using d3
  have cM := h1.moved o.m
  have eop : ((0, l, x.moved l o.m) : Int × LM × WM) = opW l x o := by unfold opW; rw [if_neg d0, if_neg d4, if_neg d1, if_neg d2, if_neg d3]
  replace cM := Lib.hid cM
  replace h1 := Lib.hid h1
  replace eop := Lib.hid eop
  replace hbx := Lib.hid hbx
  replace d0 := Lib.hid d0
  replace d4 := Lib.hid d4
  replace d1 := Lib.hid d1
  replace d2 := Lib.hid d2
  replace d3 := Lib.hid d3
  go_enter Try.func13, Try.ntmps13
  go_upto_region 1 with (fail)
  rw [hv.out]
  go_wp2_with (first | (go_at_call 33; (with_reducible refine cM.out.mono ?_); rintro e w1 ⟨rfl, hS1, hK1⟩; replace hS1 := Lib.hid hS1; replace hK1 := Lib.hid hK1))
  go_ret
  exact hend.out _ _ _ eop.out rfl hS1.out hK1.out
end Go.Proofs.Ytllhpdohahoelaa
namespace Go.Proofs.Ytllhpdohahoelaa
open Go.RowKit
set_option linter.unusedVariables false

/-- worths made of a ledger lie apart from it -/
theorem WSt.made {G : Nat → Prop} {PF : Nat → Prop} {wr w' : World} {lb b : Nat} {l : LM} {x : WM} (hL : PL PF wr lb l) (hg : l.Good) (hp : ∀ j, j < wr.heap.size → PF j → ¬ G j) (hGl : ∀ j, G j → j < wr.heap.size) (hW : WP (fun j => wr.heap.size ≤ j) w' b lb x) (hb : Below wr.heap.size wr w') : WSt G lb b l x w' := by
  refine ⟨⟨fun j => wr.heap.size ≤ j ∧ j < w'.heap.size, fun j => PF j ∧ j < wr.heap.size, (WP.live b lb x).weak hW fun j hj hp => ⟨hp, hj⟩,
    (PL.live lb l).kept ((PL.live lb l).weak hL (fun j hj hp => ⟨hp, hj⟩)) (Kp.of_below (F := fun _ => False) hb) (fun _ _ _ h => h), fun j hj => ⟨fun h => by omega, fun h => by have := hGl j h; omega, hj.2⟩, fun j hj => ⟨fun h => hp j hj.2 hj.1 h, Nat.lt_of_lt_of_le hj.2 hb.size⟩⟩, hg, fun j hj => Nat.lt_of_lt_of_le (hGl j hj) hb.size⟩

def wl0 : LM := LM.new 2 2
def wl1 : LM := (wl0.inn 0 0 10).2
def wl2 : LM := (wl1.inn 1 1 100).2
def wl3 : LM := (wl2.post [⟨0, 1, -100⟩, ⟨1, 1, 100⟩]).2
def awx : WM := WM.new euro wl3
def euro2 : List Cur := euro.set 1 { cAt euro 1 with rate := 10000 }
def awy : WM := ⟨euro2, awx.nm, awx.S⟩
theorem wl0_good : wl0.Good := by
  obtain ⟨h1, h2⟩ := new_ok (nm := 2) (nc := 2) (by omega) (by omega)
  exact ⟨h1, h2⟩
theorem wl1_good : wl1.Good := (inn_good wl0_good _ _ _).1
theorem wl2_good : wl2.Good := (inn_good wl1_good _ _ _).1
theorem wl3_good : wl3.Good := (post_good wl2_good _).1
theorem wl3_nc : wl3.nc = 2 := by decide +kernel
theorem awx_net : awx.net 0 = (-118, 0) := by decide +kernel
theorem awx_short : awx.short 0 = (125, 0) := by decide +kernel
theorem awx_if : awx.iff 0 [⟨0, 1, 100⟩] = (10, 0, 0) := by decide +kernel
theorem awy_net : awy.net 0 = (-92, 0) := by decide +kernel
theorem awy_none : awy.net 2 = (0, 1) := by decide +kernel
theorem chk_euro2 : chkT euro2 = 0 := chk_two eur ⟨usd.code, 10000, 200⟩ cap_eur cap_usd eur_usd (by decide) (by decide) (by decide)
theorem chk_euro3 : ¬ chkT (euro2.set 1 { cAt euro2 1 with cut := 10001 }) = 0 := fun h => by
  have h1 := (chk_ok h).2.2.1 1 (by decide)
  revert h1
  decide
theorem chk_eur : chkT [eur] = 0 := by
  unfold chkT
  rw [if_neg (by simp), if_neg (by simp [missC, miss_cap cap_eur]), if_neg, if_neg]
  · rintro (h | h)
    · revert h; decide
    · revert h; decide
  · rw [tw_no]
    · simp
    · rintro ⟨j, hj, i, hi, h⟩
      simp at hj
      omega
theorem awx_rate : awx.rate 1 10000 = (0, awy) := by
  unfold WM.rate
  rw [if_pos (by decide +kernel)]
  exact if_pos chk_euro2
theorem awy_cut : awy.cutt 1 10001 = (1, awy) := by
  unfold WM.cutt
  rw [if_pos (by decide +kernel)]
  exact if_neg chk_euro3
theorem tab_fst {w : World} {g : Nat} (h : Tab w (some ⟨g, 0, none⟩) 2 euro) : Tab w (some ⟨g, 0, none⟩) 1 [eur] := by
  obtain ⟨_, h2, _, h4⟩ := h
  obtain ⟨b, off, e, hlt, hc⟩ := h4.resolve_left (by decide)
  refine ⟨rfl, fun i => ?_, by decide, .inr ⟨b, off, e, hlt, fun i hi => ?_⟩⟩
  · by_cases e0 : i = 0
    · subst e0; exact h2 0
    · unfold cAt
      rw [List.getD_eq_getElem?_getD, List.getElem?_eq_none (by simp; omega)]
      exact curOk_zero
  · obtain rfl : i = 0 := by omega
    exact hc 0 (by omega)
theorem prow2 (w : World) : PRow (w.alloc (.cells #[.int .i64 0, .int .i64 1, .int .i64 (-100), .int .i64 1, .int .i64 1, .int .i64 100] 65)) (some ⟨w.heap.size, 0, none⟩) 2 [⟨0, 1, -100⟩, ⟨1, 1, 100⟩] := by
  have hb := heap_alloc_new w (.cells #[.int .i64 0, .int .i64 1, .int .i64 (-100), .int .i64 1, .int .i64 1, .int .i64 100] 65)
  refine ⟨rfl, fun q hq => ?_, .inr ⟨_, 0, rfl, obj_lt hb, fun i q hq => ?_⟩⟩
  · simp at hq
    rcases hq with rfl | rfl <;> decide
  · match i with
    | 0 => injection hq with hq; rw [← hq]; exact ⟨obj_cell hb rfl, obj_cell hb rfl, obj_cell hb rfl⟩
    | 1 => injection hq with hq; rw [← hq]; exact ⟨obj_cell hb rfl, obj_cell hb rfl, obj_cell hb rfl⟩
    | i + 2 => simp at hq
theorem prow1 (w : World) : PRow (w.alloc (.cells #[.int .i64 0, .int .i64 1, .int .i64 100] 65)) (some ⟨w.heap.size, 0, none⟩) 1 [⟨0, 1, 100⟩] := by
  have hb := heap_alloc_new w (.cells #[.int .i64 0, .int .i64 1, .int .i64 100] 65)
  refine ⟨rfl, fun q hq => ?_, .inr ⟨_, 0, rfl, obj_lt hb, fun i q hq => ?_⟩⟩
  · simp at hq
    rcases hq with rfl; decide
  · match i with
    | 0 => injection hq with hq; rw [← hq]; exact ⟨obj_cell hb rfl, obj_cell hb rfl, obj_cell hb rfl⟩
    | i + 1 => simp at hq
/-- a ledger behind a world, and a table of its own -/
structure AL (w : World) (lb : Nat) (l : LM) (wr : World) : Prop where
  led : PL (fun j => w.heap.size + 1 ≤ j) wr lb l
  good : l.Good
  tab : Tab wr (some ⟨w.heap.size, 0, none⟩) 2 euro
  blw : Below (w.heap.size + 1) (w.alloc (.cells #[.string ⟨#[69, 85, 82]⟩, .int .i64 10000, .int .i64 0, .string ⟨#[85, 83, 68]⟩, .int .i64 12500, .int .i64 200] 49)) wr
theorem AL.call {w wr w' : World} {lb : Nat} {l k : LM} (h : AL w lb l wr) (hL : PL (fun j => w.heap.size + 1 ≤ j) w' lb k) (hK : Kp (fun j => w.heap.size + 1 ≤ j) wr w') (hg : k.Good) : AL w lb k w' := by
  have hs := h.blw.size
  simp at hs
  have hb : Below (w.heap.size + 1) wr w' := hK.below hs (fun j hj e => by omega)
  exact ⟨hL, hg, h.tab.at (by omega) hK.size (hb.block _ (by omega)), h.blw.trans hb⟩
theorem AL.below {w wr w' : World} {lb : Nat} {l : LM} (h : AL w lb l wr) (hb : Below wr.heap.size wr w') : AL w lb l w' := by
  have hs := h.blw.size
  simp at hs
  exact ⟨(PL.live lb l).kept h.led (Kp.of_below (F := fun _ => False) hb) (fun _ _ _ h => h), h.good, h.tab.kept hb, h.blw.trans (hb.mono hs)⟩
theorem AL.all {w wr : World} {lb : Nat} {l : LM} (h : AL w lb l wr) : Below w.heap.size w wr := ((Below.refl _ w).alloc (Nat.le_refl _) _).trans (h.blw.mono (by omega))

/-- behind New: a ledger, worths, the table -/
structure AW (w : World) (lb b : Nat) (l : LM) (x : WM) (wr : World) : Prop where
  st : WSt (fun j => j < w.heap.size + 1) lb b l x wr
  tab : Tab wr (some ⟨w.heap.size, 0, none⟩) 2 euro
  blw : Below w.heap.size w wr
theorem AW.below {w wr w' : World} {lb b : Nat} {l : LM} {x : WM} (h : AW w lb b l x wr) (hb : Below wr.heap.size wr w') : AW w lb b l x w' := ⟨h.st.below hb, h.tab.kept hb, h.blw.trans (hb.mono h.blw.size)⟩
theorem AW.call {w wr w' : World} {lb b : Nat} {l k : LM} {x y : WM} (h : AW w lb b l x wr) (hS : WSt (fun j => j < w.heap.size + 1) lb b k y w') (hK : Kp (fun j => ¬ j < w.heap.size + 1) wr w') : AW w lb b k y w' := by
  have hs := h.st.lt w.heap.size (by omega)
  have hb : Below (w.heap.size + 1) wr w' := hK.below hs (fun j hj e => e (by omega))
  exact ⟨hS, h.tab.at hs hK.size (hb.block _ (by omega)), h.blw.trans (hb.mono (by omega))⟩

set_option maxHeartbeats 8000000 in
set_option maxRecDepth 100000 in
theorem awake_any (w : World) : Calls Try.prog 6 #[] w fun e w' => e = .returned (.bool true) ∧ Below w.heap.size w w' := by
  have hT0 := tab_lit w
  have hs1 : (w.alloc (.cells #[.string ⟨#[69, 85, 82]⟩, .int .i64 10000, .int .i64 0, .string ⟨#[85, 83, 68]⟩, .int .i64 12500, .int .i64 200] 49)).heap.size = w.heap.size + 1 := by simp
  have cN : Calls Try.prog 8 #[.int .i64 2, .int .i64 2] (w.alloc (.cells #[.string ⟨#[69, 85, 82]⟩, .int .i64 10000, .int .i64 0, .string ⟨#[85, 83, 68]⟩, .int .i64 12500, .int .i64 200] 49)) fun e w' => ∃ b, e = .returned (.tuple #[.pointer (some ⟨b, 0, none⟩), .int .i64 0]) ∧ AL w b wl0 w' := by
    refine (new_any 2 2 _).mono ?_
    rintro e w' ⟨h1, h2, h3⟩
    obtain ⟨b, e1, hL⟩ := h1 (by decide)
    rw [hs1] at hL
    exact ⟨b, e1, hL, wl0_good, hT0.kept h3, by rw [hs1] at h3; exact h3⟩
  have cI0 : ∀ b W, AL w b wl0 W → Calls Try.prog 26 #[.pointer (some ⟨b, 0, none⟩), .int .i64 0, .int .i64 0, .int .i64 10] W fun e w' => (∃ n, e = .returned (.int .i64 n)) ∧ AL w b wl1 w' := fun b W h => by
    refine (in_any _ b wl0 0 0 10 W h.led h.good (by decide) (fun i hi => by have := h.blw.size; simp at this; omega)).mono ?_
    rintro e w' ⟨rfl, hL, hK⟩
    exact ⟨⟨_, rfl⟩, h.call hL hK wl1_good⟩
  have cI1 : ∀ b W, AL w b wl1 W → Calls Try.prog 26 #[.pointer (some ⟨b, 0, none⟩), .int .i64 1, .int .i64 1, .int .i64 100] W fun e w' => (∃ n, e = .returned (.int .i64 n)) ∧ AL w b wl2 w' := fun b W h => by
    refine (in_any _ b wl1 1 1 100 W h.led h.good (by decide) (fun i hi => by have := h.blw.size; simp at this; omega)).mono ?_
    rintro e w' ⟨rfl, hL, hK⟩
    exact ⟨⟨_, rfl⟩, h.call hL hK wl2_good⟩
  have cP : ∀ b W, AL w b wl2 W → Calls Try.prog 27 #[.pointer (some ⟨b, 0, none⟩), .slice (some ⟨W.heap.size, 0, none⟩) 2 2] (W.alloc (.cells #[.int .i64 0, .int .i64 1, .int .i64 (-100), .int .i64 1, .int .i64 1, .int .i64 100] 65)) fun e w' => (∃ n, e = .returned (.int .i64 n)) ∧ AL w b wl3 w' := fun b W h => by
    have h' := h.below ((Below.refl _ W).alloc (Nat.le_refl _) (.cells #[.int .i64 0, .int .i64 1, .int .i64 (-100), .int .i64 1, .int .i64 1, .int .i64 100] 65))
    refine (post_any _ b wl2 _ 2 2 _ _ h'.led h.good (prow2 W) (by omega) (fun i hi => by have := h'.blw.size; simp at this hi; omega)).mono ?_
    rintro e w' ⟨rfl, hL, hK⟩
    exact ⟨⟨_, rfl⟩, h'.call hL hK wl3_good⟩
  have cW : ∀ b W, AL w b wl3 W → Calls Try.prog 10 #[.slice (some ⟨w.heap.size, 0, none⟩) 2 2, .pointer (some ⟨b, 0, none⟩)] W fun e w' => ∃ b2, e = .returned (.tuple #[.pointer (some ⟨b2, 0, none⟩), .int .i64 0]) ∧ AW w b b2 wl3 awx w' := fun b W h => by
    refine (wnew_any W h.tab h.led h.good).mono ?_
    rintro e w' ⟨_, _, h3, h4⟩
    obtain ⟨b2, e1, hW⟩ := h3 chk_euro (by rw [wl3_nc]; rfl)
    exact ⟨b2, e1, WSt.made h.led h.good (fun j hj hp hg => by omega) (fun j hj => by have := h.blw.size; simp at this; omega) hW h4, h.tab.kept h4, h.all.trans (h4.mono h.all.size)⟩
  have cW1 : ∀ b b2 W, AW w b b2 wl3 awx W → Calls Try.prog 10 #[.slice (some ⟨w.heap.size, 0, none⟩) 1 2, .pointer (some ⟨b, 0, none⟩)] W fun e w' => e = .returned (.tuple #[.pointer none, .int .i64 1]) ∧ AW w b b2 wl3 awx w' := fun b b2 W h => by
    obtain ⟨P, hP⟩ := h.st.pl
    refine (wnew_any W (tab_fst h.tab) hP h.st.good).mono ?_
    rintro e w' ⟨_, h2, _, h4⟩
    exact ⟨h2 chk_eur (by rw [wl3_nc]; decide), h.below h4⟩
  have cNet : ∀ b b2 W, AW w b b2 wl3 awx W → Calls Try.prog 19 #[.pointer (some ⟨b2, 0, none⟩), .int .i64 0] W fun e w' => e = .returned (.tuple #[.int .i64 (-118), .int .i64 0]) ∧ AW w b b2 wl3 awx w' := fun b b2 W h => by
    obtain ⟨P, hP⟩ := h.st.wp
    refine (net_any 0 W hP).mono ?_
    rintro e w' ⟨rfl, hb⟩
    exact ⟨by rw [awx_net], h.below hb⟩
  have cSh : ∀ b b2 W, AW w b b2 wl3 awx W → Calls Try.prog 20 #[.pointer (some ⟨b2, 0, none⟩), .int .i64 0] W fun e w' => e = .returned (.tuple #[.int .i64 125, .int .i64 0]) ∧ AW w b b2 wl3 awx w' := fun b b2 W h => by
    obtain ⟨P, hP⟩ := h.st.wp
    refine (short_any 0 W hP).mono ?_
    rintro e w' ⟨rfl, hb⟩
    exact ⟨by rw [awx_short], h.below hb⟩
  have cIf : ∀ b b2 W, AW w b b2 wl3 awx W → Calls Try.prog 21 #[.pointer (some ⟨b2, 0, none⟩), .int .i64 0, .slice (some ⟨W.heap.size, 0, none⟩) 1 1] (W.alloc (.cells #[.int .i64 0, .int .i64 1, .int .i64 100] 65)) fun e w' => e = .returned (.tuple #[.int .i64 10, .int .i64 0, .int .i64 0]) ∧ AW w b b2 wl3 awx w' := fun b b2 W h => by
    have h' := h.below ((Below.refl _ W).alloc (Nat.le_refl _) (.cells #[.int .i64 0, .int .i64 1, .int .i64 100] 65))
    obtain ⟨P, hP⟩ := h'.st.wp
    refine (if_any 0 _ 1 1 _ _ hP (prow1 W) (by omega)).mono ?_
    rintro e w' ⟨rfl, hb⟩
    exact ⟨by rw [awx_if], h'.below hb⟩
  have cRt : ∀ b b2 W, AW w b b2 wl3 awx W → Calls Try.prog 28 #[.pointer (some ⟨b2, 0, none⟩), .int .i64 1, .int .i64 10000] W fun e w' => e = .returned (.int .i64 0) ∧ AW w b b2 wl3 awy w' := fun b b2 W h => by
    have hr := h.st.rate 1 10000 (by decide)
    rw [awx_rate] at hr
    refine hr.mono ?_
    rintro e w' ⟨rfl, hS, hK⟩
    exact ⟨rfl, h.call hS hK⟩
  have cCt : ∀ b b2 W, AW w b b2 wl3 awy W → Calls Try.prog 25 #[.pointer (some ⟨b2, 0, none⟩), .int .i64 1, .int .i64 10001] W fun e w' => e = .returned (.int .i64 1) ∧ AW w b b2 wl3 awy w' := fun b b2 W h => by
    have hr := h.st.cutt 1 10001 (by decide)
    rw [awy_cut] at hr
    refine hr.mono ?_
    rintro e w' ⟨rfl, hS, hK⟩
    exact ⟨rfl, h.call hS hK⟩
  have cNe2 : ∀ b b2 W, AW w b b2 wl3 awy W → Calls Try.prog 19 #[.pointer (some ⟨b2, 0, none⟩), .int .i64 0] W fun e w' => e = .returned (.tuple #[.int .i64 (-92), .int .i64 0]) ∧ AW w b b2 wl3 awy w' := fun b b2 W h => by
    obtain ⟨P, hP⟩ := h.st.wp
    refine (net_any 0 W hP).mono ?_
    rintro e w' ⟨rfl, hb⟩
    exact ⟨by rw [awy_net], h.below hb⟩
  have cTb : ∀ b b2 W, AW w b b2 wl3 awy W → Calls Try.prog 18 #[.pointer (some ⟨b2, 0, none⟩)] W fun e w' => ∃ g c, e = .returned (.slice (some ⟨g, 0, none⟩) 2 c) ∧ AW w b b2 wl3 awy w' ∧ w'.cell? ⟨g, 4, none⟩ = some (.int .i64 10000) := fun b b2 W h => by
    obtain ⟨P, hP⟩ := h.st.wp
    refine (table_any W hP).mono ?_
    rintro e w' ⟨g, c, rfl, hT, _, _, hb⟩
    refine ⟨g, c, rfl, h.below hb, ?_⟩
    obtain ⟨_, _, _, hc⟩ := hT
    obtain ⟨b', off, e, hlt, hc⟩ := hc.resolve_left (by decide)
    injection e with e
    injection e with e1 e2
    subst e1; subst e2
    exact (hc 1 (by decide)).2.1
  have cNe3 : ∀ b b2 W, AW w b b2 wl3 awy W → Calls Try.prog 19 #[.pointer (some ⟨b2, 0, none⟩), .int .i64 2] W fun e w' => e = .returned (.tuple #[.int .i64 0, .int .i64 1]) ∧ Below W.heap.size W w' ∧ Below w.heap.size w w' := fun b b2 W h => by
    obtain ⟨P, hP⟩ := h.st.wp
    refine (net_any 2 W hP).mono ?_
    rintro e w' ⟨rfl, hb⟩
    exact ⟨by rw [awy_none], hb, h.blw.trans (hb.mono h.blw.size)⟩
  replace cN := Lib.hid cN
  replace cI0 := Lib.hid cI0
  replace cI1 := Lib.hid cI1
  replace cP := Lib.hid cP
  replace cW := Lib.hid cW
  replace cW1 := Lib.hid cW1
  replace cNet := Lib.hid cNet
  replace cSh := Lib.hid cSh
  replace cIf := Lib.hid cIf
  replace cRt := Lib.hid cRt
  replace cCt := Lib.hid cCt
  replace cNe2 := Lib.hid cNe2
  replace cTb := Lib.hid cTb
  replace cNe3 := Lib.hid cNe3
  replace hT0 := Lib.hid hT0
  clear hs1
  go_enter Try.func6, Try.ntmps6
  go_wp2_with fail
  with_reducible refine cN.out.mono ?_
  rintro e w1 ⟨b, rfl, hS1⟩
  replace hS1 := Lib.hid hS1
  go_wp2_with fail
  with_reducible refine (cI0.out _ _ hS1.out).mono ?_
  rintro e w2 ⟨⟨n2, rfl⟩, hS2⟩
  replace hS2 := Lib.hid hS2
  go_wp2_with fail
  with_reducible refine (cI1.out _ _ hS2.out).mono ?_
  rintro e w3 ⟨⟨n3, rfl⟩, hS3⟩
  replace hS3 := Lib.hid hS3
  go_wp2_with fail
  with_reducible refine (cP.out _ _ hS3.out).mono ?_
  rintro e w4 ⟨⟨n4, rfl⟩, hS4⟩
  replace hS4 := Lib.hid hS4
  go_wp2_with fail
  with_reducible refine (cW.out _ _ hS4.out).mono ?_
  rintro e w5 ⟨b2, rfl, hS5⟩
  replace hS5 := Lib.hid hS5
  go_wp2_with fail
  with_reducible refine (cW1.out _ _ _ hS5.out).mono ?_
  rintro e w6 ⟨rfl, hS6⟩
  replace hS6 := Lib.hid hS6
  go_wp2_with fail
  with_reducible refine (cNet.out _ _ _ hS6.out).mono ?_
  rintro e w7 ⟨rfl, hS7⟩
  replace hS7 := Lib.hid hS7
  go_wp2_with fail
  with_reducible refine (cSh.out _ _ _ hS7.out).mono ?_
  rintro e w8 ⟨rfl, hS8⟩
  replace hS8 := Lib.hid hS8
  go_wp2_with fail
  with_reducible refine (cIf.out _ _ _ hS8.out).mono ?_
  rintro e w9 ⟨rfl, hS9⟩
  replace hS9 := Lib.hid hS9
  go_wp2_with fail
  with_reducible refine (cRt.out _ _ _ hS9.out).mono ?_
  rintro e w10 ⟨rfl, hS10⟩
  replace hS10 := Lib.hid hS10
  go_wp2_with fail
  with_reducible refine (cCt.out _ _ _ hS10.out).mono ?_
  rintro e w11 ⟨rfl, hS11⟩
  replace hS11 := Lib.hid hS11
  go_wp2_with fail
  with_reducible refine (cNe2.out _ _ _ hS11.out).mono ?_
  rintro e w12 ⟨rfl, hS12⟩
  replace hS12 := Lib.hid hS12
  go_wp2_with fail
  with_reducible refine (cTb.out _ _ _ hS12.out).mono ?_
  rintro e w13 ⟨g, c, rfl, hS13, hc13⟩
  replace hS13 := Lib.hid hS13
  replace hc13 := Lib.hid hc13
  go_wp2_with fail
  with_reducible refine (cNe3.out _ _ _ hS13.out).mono ?_
  rintro e w14 ⟨rfl, hb14, hB14⟩
  have hc14 : w14.cell? ⟨g, 4, none⟩ = some (.int .i64 10000) := (hb14.cell (p := ⟨g, 4, none⟩) (World.block_lt_of_cell? _ _ hc13.out)).trans hc13.out
  replace hb14 := Lib.hid hb14
  replace hB14 := Lib.hid hB14
  go_wp2_with fail
  go_ret
  exact ⟨rfl, hB14.out⟩
end Go.Proofs.Ytllhpdohahoelaa
namespace Go.Proofs.Ytllhpdohahoelaa
open Go.RowKit Go.ChangeShapes Go.WideShapes Go.ChangeAt
set_option linter.unusedVariables false

def pstFields : Array Field := #[⟨"Member", 3, 0, false, "", "", 0⟩, ⟨"Cur", 3, 1, false, "", "", 8⟩, ⟨"Amount", 2, 2, false, "", "", 16⟩]
theorem und65 : Try.prog.underlying 65 = some (.struct pstFields) := by kernel_rfl
theorem cellsOfPst : Try.prog.cellsOf 65 = 3 := by kernel_rfl
def wopFields : Array Field := #[⟨"Do", 3, 0, false, "", "", 0⟩, ⟨"Member", 3, 1, false, "", "", 8⟩, ⟨"Cur", 3, 2, false, "", "", 16⟩, ⟨"Amount", 2, 3, false, "", "", 24⟩, ⟨"Batch", 24, 4, false, "", "", 32⟩]
theorem und40 : Try.prog.underlying 40 = some (.struct wopFields) := by kernel_rfl
theorem cellsOfWop : Try.prog.cellsOf 40 = 5 := by kernel_rfl
theorem cellsOfInt3 : Try.prog.cellsOf 3 = 1 := by kernel_rfl
theorem cellsOfInt2 : Try.prog.cellsOf 2 = 1 := by kernel_rfl
theorem cellsOfPsts : Try.prog.cellsOf 24 = 1 := by kernel_rfl
theorem bytesOfPst : Try.prog.bytesOf 65 = 24 := by kernel_rfl
theorem bytesOfWop : Try.prog.bytesOf 40 = 56 := by kernel_rfl
theorem mem_weightsAllL {H : Type} {P : Program} {e : TypeId} {d : DataW H} {n : Nat} (hn : n ∈ d.weights P e) : ∀ {l : List (DataW H)}, d ∈ l → n ∈ DataW.weightsAll P e l
  | x :: r, h => by
    simp only [DataW.weightsAll, List.mem_append]
    rcases List.mem_cons.1 h with rfl | h
    · exact .inl hn
    · exact .inr (mem_weightsAllL hn h)
/-- a row of operations that is read -/
def OpsW (w : World) (p : Option Addr) (len : Nat) (ops : List WOp) : Prop :=
  ops.length = len ∧ len ≤ 140737488351232 ∧ (∀ x ∈ ops, x.Ok w ∧ x.len ≤ 140737488351232) ∧ (len = 0 ∨ ∃ b off, p = some ⟨b, off, none⟩ ∧ b < w.heap.size ∧ ∀ i x, ops[i]? = some x → ∀ j, j < 5 → w.cell? ⟨b, off + i * 5 + j, none⟩ = x.arr[j]?)
theorem WOp.Ok.kept {x : WOp} {w w' : World} (h : x.Ok w) (hb : Below w.heap.size w w') : x.Ok w' := ⟨h.a, h.b.kept hb⟩
theorem OpsW.kept {w w' : World} {p : Option Addr} {len : Nat} {ops : List WOp} (h : OpsW w p len ops) (hb : Below w.heap.size w w') : OpsW w' p len ops := by
  obtain ⟨h1, h2, h3, h4⟩ := h
  refine ⟨h1, h2, fun x hx => ⟨(h3 x hx).1.kept hb, (h3 x hx).2⟩, h4.imp id ?_⟩
  rintro ⟨b, off, rfl, hlt, hc⟩
  exact ⟨b, off, rfl, Nat.lt_of_lt_of_le hlt hb.size, fun i x hx j hj => (hb.cell (p := ⟨b, off + i * 5 + j, none⟩) hlt).trans (hc i x hx j hj)⟩
theorem OpsW.at {w : World} {p : Option Addr} {len : Nat} {ops : List WOp} (h : OpsW w p len ops) {k : Nat} {x : WOp} (hx : ops[k]? = some x) : ∃ b off, p = some ⟨b, off, none⟩ ∧ w.cell? ⟨b, off + k * 5, none⟩ = some (.int .i64 x.Do) ∧ w.cell? ⟨b, off + k * 5 + 1, none⟩ = some (.int .i64 x.m) ∧
    w.cell? ⟨b, off + k * 5 + 2, none⟩ = some (.int .i64 x.c) ∧ w.cell? ⟨b, off + k * 5 + 3, none⟩ = some (.int .i64 x.a) ∧ w.cell? ⟨b, off + k * 5 + 4, none⟩ = some (.slice x.p x.len x.cap) := by
  obtain ⟨h1, _, _, h4⟩ := h
  have hk := (List.getElem?_eq_some_iff.1 hx).1
  obtain ⟨b, off, rfl, _, hc⟩ := h4.resolve_left (by omega)
  exact ⟨b, off, rfl, hc k x hx 0 (by omega), hc k x hx 1 (by omega), hc k x hx 2 (by omega), hc k x hx 3 (by omega), hc k x hx 4 (by omega)⟩
section
variable {H : Type} {enc : TypeId × Value → H} {w : World}
set_option maxRecDepth 100000 in
/-- a posting, read -/
theorem pst_open {fuel : Nat} {cs : List Value} {x : DataW H × List MemPlace} (h : DataW.trod enc Try.prog w 0 (fun _ => true) true fuel 65 cs = some x) :
    ∃ q : Pst, cs = [.int .i64 q.m, .int .i64 q.c, .int .i64 q.a] ∧ In64 q.m ∧ In64 q.c ∧ In64 q.a := by
  obtain ⟨xs, n, _, hx, hl, hlen, hf⟩ := DataW.trod_struct und65 h
  rw [cellsOfPst] at hl
  match cs, hl with
  | [v0, v1, v2], _ =>
    match xs, hlen with
    | [y0, y1, y2], _ =>
      have h0 := hf 0 ⟨"Member", 3, 0, false, "", "", 0⟩ rfl
      have h1 := hf 1 ⟨"Cur", 3, 1, false, "", "", 8⟩ rfl
      have h2 := hf 2 ⟨"Amount", 2, 2, false, "", "", 16⟩ rfl
      simp only [cellsOfInt3, cellsOfInt2, List.drop_zero, List.drop_succ_cons, List.take_succ_cons, List.take_zero] at h0 h1 h2
      obtain ⟨a0, e0, _, w0⟩ := DataW.trod_int Try.underlying3 h0
      obtain ⟨a1, e1, _, w1⟩ := DataW.trod_int Try.underlying3 h1
      obtain ⟨a2, e2, _, w2⟩ := DataW.trod_int Try.underlying2 h2
      simp only [List.cons.injEq, and_true] at e0 e1 e2
      subst e0; subst e1; subst e2
      exact ⟨⟨a0, a1, a2⟩, rfl, bounds_i64 w0, bounds_i64 w1, bounds_i64 w2⟩
set_option maxRecDepth 100000 in
/-- postings, read -/
theorem prow_open {fuel : Nat} {a : Option Addr} {len cap : Nat} {x : DataW H × List MemPlace} (h : DataW.trod enc Try.prog w 0 (fun _ => true) true fuel 24 [.slice a len cap] = some x) (hw : ∀ n ∈ x.1.weights Try.prog 24, n ≤ 140737488351232) :
    ∃ ps : List Pst, PRow w a len ps ∧ len ≤ 140737488351232 := by
  rcases Go.Deep.open_slice Try.underlying24 h with ⟨hcs, _⟩ | ⟨ad, l, c, m, n, D, Pl, hcs, _, hl, hm, hmm, hx, hi⟩
  · simp at hcs
    obtain ⟨rfl, rfl, rfl⟩ := hcs
    exact ⟨[], ⟨rfl, fun q hq => (by cases hq), .inl rfl⟩, by omega⟩
  · simp at hcs
    obtain ⟨rfl, rfl, rfl⟩ := hcs
    have hml : len ≤ m := by rw [hmm]; simpa using hl
    have hone : ∀ i, i < len → ∃ q : Pst, (w.cell? (ad.add (i * 3)) = some (.int .i64 q.m) ∧ w.cell? (ad.add (i * 3 + 1)) = some (.int .i64 q.c) ∧ w.cell? (ad.add (i * 3 + 2)) = some (.int .i64 q.a)) ∧ In64 q.m ∧ In64 q.c ∧ In64 q.a := by
      intro i hil
      obtain ⟨cs', hc, ht⟩ := hi i (by omega)
      rw [cellsOfPst] at hc
      obtain ⟨q, rfl, hq⟩ := pst_open ht
      obtain ⟨_, _, hat⟩ := World.cells?_some hc
      have g0 := hat 0 (by omega)
      have g1 := hat 1 (by omega)
      have g2 := hat 2 (by omega)
      rw [Go.Deep.add_add] at g0 g1 g2
      exact ⟨q, ⟨g0, g1, g2⟩, hq⟩
    let f : Nat → Pst := fun i => if h : i < len then Classical.choose (hone i h) else ⟨0, 0, 0⟩
    have hf : ∀ i, i < len → (w.cell? (ad.add (i * 3)) = some (.int .i64 (f i).m) ∧ w.cell? (ad.add (i * 3 + 1)) = some (.int .i64 (f i).c) ∧ w.cell? (ad.add (i * 3 + 2)) = some (.int .i64 (f i).a)) ∧ In64 (f i).m ∧ In64 (f i).c ∧ In64 (f i).a := by
      intro i h
      have e : f i = Classical.choose (hone i h) := dif_pos h
      rw [e]
      exact Classical.choose_spec (hone i h)
    subst hx
    have hmx : len ≤ 140737488351232 := by
      have h1 : ∀ n ∈ (DataW.slice ((List.range len).map D) ((List.range (m - len)).map fun j => D (len + j))).weights Try.prog 24, n ≤ 140737488351232 := hw
      simp only [DataW.weights, Try.underlying24, List.mem_cons] at h1
      have h2 := h1 _ (.inl rfl)
      rw [bytesOfPst] at h2
      simp only [List.length_map, List.length_range] at h2
      omega
    refine ⟨(List.range len).map f, ⟨by simp, fun q hq => ?_, ?_⟩, hmx⟩
    · obtain ⟨i, hi', rfl⟩ := List.mem_map.1 hq
      exact (hf i (List.mem_range.1 hi')).2
    by_cases h0 : len = 0
    · exact .inl h0
    · obtain ⟨b, off, spot⟩ := ad
      have c0 := (hf 0 (by omega)).1.1
      have hspot : spot = none := by simpa [Addr.add] using World.cell?_spot c0
      subst hspot
      refine .inr ⟨b, off, rfl, ?_, fun i q hq => ?_⟩
      · have := World.block_lt_of_cell? w _ c0
        rwa [Go.WideShapes.add_plain] at this
      · have hil : i < len := by have := (List.getElem?_eq_some_iff.1 hq).1; simpa using this
        rw [List.getElem?_map, List.getElem?_range hil] at hq
        injection hq with hq
        subst hq
        obtain ⟨⟨g0, g1, g2⟩, _⟩ := hf i hil
        rw [Go.WideShapes.add_plain] at g0 g1 g2
        exact ⟨g0, g1, g2⟩
set_option maxRecDepth 100000 in
/-- one operation, read -/
theorem wop_open {fuel : Nat} {cs : List Value} {x : DataW H × List MemPlace} (h : DataW.trod enc Try.prog w 0 (fun _ => true) true fuel 40 cs = some x) (hw : ∀ n ∈ x.1.weights Try.prog 40, n ≤ 140737488351232) :
    ∃ c : WOp, cs = c.arr.toList ∧ c.Ok w ∧ c.len ≤ 140737488351232 := by
  obtain ⟨xs, n, _, hx, hl, hlen, hf⟩ := DataW.trod_struct und40 h
  rw [cellsOfWop] at hl
  match cs, hl with
  | [v0, v1, v2, v3, v4], _ =>
    match xs, hlen with
    | [y0, y1, y2, y3, y4], _ =>
      have h0 := hf 0 ⟨"Do", 3, 0, false, "", "", 0⟩ rfl
      have h1 := hf 1 ⟨"Member", 3, 1, false, "", "", 8⟩ rfl
      have h2 := hf 2 ⟨"Cur", 3, 2, false, "", "", 16⟩ rfl
      have h3 := hf 3 ⟨"Amount", 2, 3, false, "", "", 24⟩ rfl
      have h4 := hf 4 ⟨"Batch", 24, 4, false, "", "", 32⟩ rfl
      simp only [cellsOfInt3, cellsOfInt2, cellsOfPsts, List.drop_zero, List.drop_succ_cons, List.take_succ_cons, List.take_zero] at h0 h1 h2 h3 h4
      obtain ⟨a0, e0, _, w0⟩ := DataW.trod_int Try.underlying3 h0
      obtain ⟨a1, e1, _, w1⟩ := DataW.trod_int Try.underlying3 h1
      obtain ⟨a2, e2, _, w2⟩ := DataW.trod_int Try.underlying3 h2
      obtain ⟨a3, e3, _, w3⟩ := DataW.trod_int Try.underlying2 h3
      simp only [List.cons.injEq, and_true] at e0 e1 e2 e3
      subst e0; subst e1; subst e2; subst e3
      obtain ⟨p, len, cap, rfl⟩ : ∃ p len cap, v4 = Value.slice p len cap := by
        rcases Go.Deep.open_slice Try.underlying24 h4 with ⟨hcs, _⟩ | ⟨ad, l, c, m, n, D, Pl, hcs, _⟩
        · exact ⟨none, 0, 0, by simpa using hcs⟩
        · exact ⟨some ad, l, c, by simpa using hcs⟩
      obtain ⟨ps, hp, hn⟩ := prow_open h4 (fun n hn => hw n (by
        subst hx
        simp only [List.map_cons, List.map_nil, DataW.weights, und40, wopFields, DataW.weightsEach, List.mem_append]
        exact .inr (.inr (.inr (.inr (.inl hn))))))
      exact ⟨⟨a0, a1, a2, a3, p, len, cap, ps⟩, rfl, ⟨bounds_i64 w3, hp⟩, hn⟩
set_option maxRecDepth 100000 in
/-- operations that came in -/
theorem wops_open {fuel : Nat} {a : Option Addr} {len cap : Nat} {x : DataW H × List MemPlace} (h : DataW.trod enc Try.prog w 0 (fun _ => true) true fuel 23 (Value.cells (.slice a len cap)).toList = some x)
    (hw : ∀ n ∈ x.1.weights Try.prog 23, n ≤ 140737488351232) : ∃ ops, OpsW w a len ops := by
  rcases Go.Deep.open_slice Try.underlying23 h with ⟨hcs, _⟩ | ⟨ad, l, c, m, n, D, Pl, hcs, _, hl, hm, hmm, hx, hi⟩
  · simp [Value.cells] at hcs
    obtain ⟨rfl, rfl, rfl⟩ := hcs
    exact ⟨[], rfl, by decide, fun x hx => (by cases hx), .inl rfl⟩
  · simp [Value.cells] at hcs
    obtain ⟨rfl, rfl, rfl⟩ := hcs
    have hml : len ≤ m := by rw [hmm]; simpa using hl
    subst hx
    have hone : ∀ i, i < len → ∃ c : WOp, (c.Ok w ∧ c.len ≤ 140737488351232) ∧ ∀ j, j < 5 → w.cell? (ad.add (i * 5 + j)) = c.arr[j]? := by
      intro i hil
      obtain ⟨cs', hc, ht⟩ := hi i (by omega)
      rw [cellsOfWop] at hc
      obtain ⟨c, rfl, h1, h2⟩ := wop_open ht (fun n hn => hw n (by
        simp only [DataW.weights, Try.underlying23, List.mem_cons, List.mem_append]
        refine .inr (.inl (mem_weightsAllL hn ?_))
        simp only [List.mem_map, List.mem_range]
        exact ⟨i, hil, rfl⟩))
      obtain ⟨_, _, hat⟩ := World.cells?_some hc
      refine ⟨c, ⟨h1, h2⟩, fun j hj => ?_⟩
      have g := hat j hj
      rw [Go.Deep.add_add] at g
      rw [g]
      simp
    have hmx : len ≤ 140737488351232 := by
      have h1 : ∀ n ∈ (DataW.slice ((List.range len).map D) ((List.range (m - len)).map fun j => D (len + j))).weights Try.prog 23, n ≤ 140737488351232 := hw
      simp only [DataW.weights, Try.underlying23, List.mem_cons] at h1
      have h2 := h1 _ (.inl rfl)
      rw [bytesOfWop] at h2
      simp only [List.length_map, List.length_range] at h2
      omega
    let f : Nat → WOp := fun i => if h : i < len then Classical.choose (hone i h) else ⟨0, 0, 0, 0, none, 0, 0, []⟩
    have hf : ∀ i, i < len → ((f i).Ok w ∧ (f i).len ≤ 140737488351232) ∧ ∀ j, j < 5 → w.cell? (ad.add (i * 5 + j)) = (f i).arr[j]? := by
      intro i h
      have e : f i = Classical.choose (hone i h) := dif_pos h
      rw [e]
      exact Classical.choose_spec (hone i h)
    refine ⟨(List.range len).map f, by simp, hmx, fun y hy => ?_, ?_⟩
    · obtain ⟨i, hi', rfl⟩ := List.mem_map.1 hy
      exact (hf i (List.mem_range.1 hi')).1
    by_cases h0 : len = 0
    · exact .inl h0
    · obtain ⟨b, off, spot⟩ := ad
      have c0 := (hf 0 (by omega)).2 0 (by omega)
      have c1 : w.cell? ((⟨b, off, spot⟩ : Addr).add (0 * 5 + 0)) = some (.int .i64 (f 0).Do) := c0
      have hspot : spot = none := by simpa [Addr.add] using World.cell?_spot c1
      subst hspot
      refine .inr ⟨b, off, rfl, ?_, fun i y hy j hj => ?_⟩
      · have := World.block_lt_of_cell? w _ c1
        rwa [Go.WideShapes.add_plain] at this
      · have hil : i < len := by have := (List.getElem?_eq_some_iff.1 hy).1; simpa using this
        rw [List.getElem?_map, List.getElem?_range hil] at hy
        injection hy with hy
        subst hy
        have g := (hf i hil).2 j hj
        rw [Go.WideShapes.add_plain] at g
        rw [← g]
        congr 2
        omega
end
/-- are there too many? -/
def manyO (ops : List WOp) : Bool := ops.any (fun x => decide (20 < x.len)) || decide (30 < ops.length)
set_option maxHeartbeats 2000000 in
set_option maxRecDepth 100000 in
theorem large_any (p : Option Addr) (len cap : Nat) (ops : List WOp) (w : World) (h : OpsW w p len ops) :
    Calls Try.prog 7 #[.slice p len cap] w fun e w' => e = .returned (.bool (manyO ops)) ∧ w = w' := by
  obtain ⟨h1, h2, h3, h4⟩ := h
  go_enter Try.func7, Try.ntmps7
  go_wp2_with fail
  go_loop [6] (fun i => ∃ k : Nat, k ≤ len ∧ i = .int .i64 k ∧ Hid (∀ j x, j < k → ops[j]? = some x → x.len ≤ 20)) (fun i => len - (intOf i).toNat)
  case atStart => exact ⟨0, by omega, rfl, Lib.hid (fun j x h => by omega)⟩
  case round =>
    obtain ⟨k, hk, rfl, hA⟩ := hrel
    by_cases hkn : k < len
    · have kz : (k : Int) < (len : Int) := by omega
      obtain ⟨b, off, rfl, hblt, hcell⟩ := h4.resolve_left (by omega)
      obtain ⟨x, hx⟩ : ∃ x, ops[k]? = some x := ⟨_, List.getElem?_eq_getElem (by omega)⟩
      have c4 : w.cell? ⟨b, off + k * 5 + 4, none⟩ = some (.slice x.p x.len x.cap) := hcell k x hx 4 (by omega)
      clear hcell h4
      by_cases h30 : 20 < x.len
      · have hz : (20 : Int) < (x.len : Int) := by omega
        have hm : manyO ops = true := by
          unfold manyO
          rw [Bool.or_eq_true]
          exact .inl (List.any_eq_true.2 ⟨x, List.mem_of_getElem? hx, decide_eq_true h30⟩)
        replace hm := Lib.hid hm
        go_wp2_with fail
        go_ret
        exact ⟨by rw [hm.out]; rfl, rfl⟩
      · have hz : ¬ (20 : Int) < (x.len : Int) := by omega
        have hA2 : Hid (∀ j x, j < k + 1 → ops[j]? = some x → x.len ≤ 20) := Lib.hid fun j y hj hy => by
          by_cases e : j = k
          · subst e; rw [hx] at hy; injection hy with hy; subst hy; omega
          · exact hA.out j y (by omega) hy
        go_wp2_with fail
        go_round
        case rel => exact ⟨k + 1, by omega, by go_num, hA2⟩
        case measure => simp [intOf]; omega
    · obtain rfl : k = len := by omega
      have kz : ¬ (k : Int) < (k : Int) := by omega
      have hany : ops.any (fun x => decide (20 < x.len)) = false := by
        rw [List.any_eq_false]
        intro x hx
        obtain ⟨j, hj⟩ := List.getElem?_of_mem hx
        have := hA.out j x (by have := (List.getElem?_eq_some_iff.1 hj).1; omega) hj
        simp
        omega
      have hm : manyO ops = decide ((30 : Int) < (k : Int)) := by
        unfold manyO
        rw [hany, h1, Bool.false_or]
        exact decide_eq_decide.2 (by omega)
      replace hm := Lib.hid hm
      replace hany := Lib.hid hany
      go_wp2_with fail
      go_ret
      exact ⟨by rw [hm.out]; rfl, rfl⟩
theorem many_len {ops : List WOp} (h : manyO ops = false) : ops.length ≤ 30 := by
  unfold manyO at h
  simp only [Bool.or_eq_false_iff, decide_eq_false_iff_not] at h
  omega
theorem many_one {ops : List WOp} (h : manyO ops = false) {x : WOp} (hx : x ∈ ops) : x.len ≤ 20 := by
  unfold manyO at h
  simp only [Bool.or_eq_false_iff, List.any_eq_false, decide_eq_true_eq] at h
  have := h.1 x hx
  omega
end Go.Proofs.Ytllhpdohahoelaa
