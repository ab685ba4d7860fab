/- A ledger and worths that lie apart; what an operation of the law's makes of them; the contract of the law's do. -/
import Derived.Test.YtllhpdohahoelaaWI
import Derived.Test.YtllhpdohahoelaaLI1
namespace Go.Proofs.Ytllhpdohahoelaa
open Go.RowKit
set_option linter.unusedVariables false

/-- a call of the first one's that reads the second one -/
theorem Apart.call2 {α : Type} {G : Nat → Prop} {X Y : (Nat → Prop) → World → Prop} {X' : α → (Nat → Prop) → World → Prop} {φ : α → Ending → Prop} {w : World} {f : FuncId} {args : Array Value}
    (lX : Live X) (lX' : ∀ x, Live (X' x)) (lY : Live Y) (hG : ∀ j, G j → j < w.heap.size) (h : Apart G X Y w)
    (hc : ∀ P Q : Nat → Prop, X P w → Y Q w → (∀ i, w.heap.size ≤ i → P i) → (∀ j, Q j → ¬ P j) → Calls Try.prog f args w fun e w' => ∃ x, φ x e ∧ X' x P w' ∧ Kp P w w') :
    Calls Try.prog f args w fun e w' => ∃ x, φ x e ∧ Apart G (X' x) Y w' ∧ Kp (fun j => ¬ G j) w w' := by
  obtain ⟨PF, RF, hX, hY, h1, h2⟩ := h
  refine (hc (fun j => PF j ∨ w.heap.size ≤ j) RF (lX.weak hX fun j _ hj => .inl hj) hY (fun i hi => .inr hi) (fun j hr hp => by
    rcases hp with hp | hp
    · exact (h1 j hp).1 hr
    · have := (h2 j hr).2; omega)).mono ?_
  rintro e w' ⟨x, he, hx, hK⟩
  refine ⟨x, he, ⟨fun j => (PF j ∨ w.heap.size ≤ j) ∧ j < w'.heap.size, RF, (lX' x).weak hx fun j hl hj => ⟨hj, hl⟩, lY.kept hY hK fun j hl hr hp => ?_, fun j hj => ⟨fun hr => ?_, fun hg => ?_, hj.2⟩, fun j hj => ⟨(h2 j hj).1, Nat.lt_of_lt_of_le (h2 j hj).2 hK.size⟩⟩, hK.mono fun j hl hp hg => ?_⟩
  · rcases hp with hp | hp
    · exact (h1 j hp).1 hr
    · omega
  · rcases hj.1 with hp | hp
    · exact (h1 j hp).1 hr
    · have := (h2 j hr).2; omega
  · rcases hj.1 with hp | hp
    · exact (h1 j hp).2.1 hg
    · have := hG j hg; omega
  · rcases hp with hp | hp
    · exact (h1 j hp).2.1 hg
    · omega
theorem Apart.less {G G' : Nat → Prop} {X Y : (Nat → Prop) → World → Prop} {w : World} (h : Apart G' X Y w) (hG : ∀ j, G j → G' j) : Apart G X Y w := by
  obtain ⟨PF, RF, hX, hY, h1, h2⟩ := h
  exact ⟨PF, RF, hX, hY, fun j hj => ⟨(h1 j hj).1, fun hg => (h1 j hj).2.1 (hG j hg), (h1 j hj).2.2⟩, fun j hj => ⟨fun hg => (h2 j hj).1 (hG j hg), (h2 j hj).2⟩⟩

/-- an operation -/
structure WOp where
  Do : Int
  m : Int
  c : Int
  a : Int
  p : Option Addr
  len : Nat
  cap : Nat
  ps : List Pst
def WOp.arr (o : WOp) : Array Value := #[.int .i64 o.Do, .int .i64 o.m, .int .i64 o.c, .int .i64 o.a, .slice o.p o.len o.cap]
structure WOp.Ok (o : WOp) (w : World) : Prop where
  a : In64 o.a
  b : PRow w o.p o.len o.ps
/-- k members are taken anew -/
def WM.all (x : WM) (l : LM) (k : Nat) : WM := ⟨x.cs, x.nm, fun a => if a < k then l.row a else x.S a⟩
/-- what an operation tells, and makes of a ledger and of worths -/
noncomputable def opW (l : LM) (x : WM) (o : WOp) : Int × LM × WM :=
  if o.Do = 0 then ((l.inn o.m o.c o.a).1, (l.inn o.m o.c o.a).2, x.moved (l.inn o.m o.c o.a).2 o.m)
  else if o.Do = 4 then ((l.inn o.m o.c o.a).1, (l.inn o.m o.c o.a).2, x)
  else if o.Do = 1 then ((l.post o.ps).1, (l.post o.ps).2, x.all (l.post o.ps).2 x.nm)
  else if o.Do = 2 then ((x.rate o.c o.a).1, l, (x.rate o.c o.a).2)
  else if o.Do = 3 then ((x.cutt o.c o.a).1, l, (x.cutt o.c o.a).2)
  else (0, l, x.moved l o.m)
theorem all_zero (x : WM) (l : LM) : x.all l 0 = x := by unfold WM.all; simp
theorem all_step (x : WM) (l : LM) {k : Nat} (hk : k < x.nm) : (x.all l k).moved l (k : Int) = x.all l (k + 1) := by
  unfold WM.moved WM.has WM.all
  dsimp only
  rw [if_pos (by simp; omega), Int.toNat_natCast]
  congr 1
  funext a
  by_cases e : a = k
  · subst e; rw [if_pos rfl, if_pos (by omega)]
  · rw [if_neg e]
    by_cases e2 : a < k
    · rw [if_pos e2, if_pos (by omega)]
    · rw [if_neg e2, if_neg (by omega)]
theorem all_nm (x : WM) (l : LM) (k : Nat) : (x.all l k).nm = x.nm := rfl

/-- a ledger and worths of it, behind what stays -/
structure WSt (G : Nat → Prop) (lb b : Nat) (l : LM) (x : WM) (w : World) : Prop where
  ap : Apart G (fun P w => WP P w b lb x) (fun P w => PL P w lb l) w
  good : l.Good
  lt : ∀ j, G j → j < w.heap.size
section
variable {G : Nat → Prop} {lb b : Nat} {l : LM} {x : WM} {w w' : World}
theorem WSt.below (h : WSt G lb b l x w) (hb : Below w.heap.size w w') : WSt G lb b l x w' := ⟨h.ap.below (WP.live b lb x) (PL.live lb l) hb, h.good, fun j hj => Nat.lt_of_lt_of_le (h.lt j hj) hb.size⟩
theorem WSt.wp (h : WSt G lb b l x w) : ∃ P, WP P w b lb x := by obtain ⟨PF, RF, hX, hY, _⟩ := h.ap; exact ⟨PF, hX⟩
theorem WSt.pl (h : WSt G lb b l x w) : ∃ P, PL P w lb l := by obtain ⟨PF, RF, hX, hY, _⟩ := h.ap; exact ⟨RF, hY⟩
def DoneW (G : Nat → Prop) (lb b : Nat) (r : Int × LM × WM) (w : World) (e : Ending) (w' : World) : Prop := e = .returned (.int .i64 r.1) ∧ WSt G lb b r.2.1 r.2.2 w' ∧ Kp (fun j => ¬ G j) w w'
theorem WSt.inn (h : WSt G lb b l x w) (m c a : Int) (ha : In64 a) : Calls Try.prog 26 #[.pointer (some ⟨lb, 0, none⟩), .int .i64 m, .int .i64 c, .int .i64 a] w (DoneW G lb b ((l.inn m c a).1, (l.inn m c a).2, x) w) := by
  refine (h.ap.swap.call (α := Unit) (X' := fun _ P w => PL P w lb (l.inn m c a).2) (φ := fun _ e => e = .returned (.int .i64 (l.inn m c a).1)) (PL.live lb l) (fun _ => PL.live lb _) (WP.live b lb x) h.lt fun P hP hf => (in_any P lb l m c a w hP h.good ha hf).mono fun e w' ⟨h1, h2, h3⟩ => ⟨(), h1, h2, h3⟩).mono ?_
  rintro e w' ⟨_, he, hA, hK⟩
  exact ⟨he, ⟨hA.swap, (inn_good h.good m c a).1, fun j hj => Nat.lt_of_lt_of_le (h.lt j hj) hK.size⟩, hK⟩
theorem WSt.post (h : WSt G lb b l x w) (p : Option Addr) (len cap : Nat) (ps : List Pst) (hr : PRow w p len ps) (hl : len ≤ 30) : Calls Try.prog 27 #[.pointer (some ⟨lb, 0, none⟩), .slice p len cap] w (DoneW G lb b ((l.post ps).1, (l.post ps).2, x) w) := by
  refine (h.ap.swap.call (α := Unit) (X' := fun _ P w => PL P w lb (l.post ps).2) (φ := fun _ e => e = .returned (.int .i64 (l.post ps).1)) (PL.live lb l) (fun _ => PL.live lb _) (WP.live b lb x) h.lt fun P hP hf => (post_any P lb l p len cap ps w hP h.good hr hl hf).mono fun e w' ⟨h1, h2, h3⟩ => ⟨(), h1, h2, h3⟩).mono ?_
  rintro e w' ⟨_, he, hA, hK⟩
  exact ⟨he, ⟨hA.swap, (post_good h.good ps).1, fun j hj => Nat.lt_of_lt_of_le (h.lt j hj) hK.size⟩, hK⟩
theorem WSt.moved (h : WSt G lb b l x w) (m : Int) : Calls Try.prog 33 #[.pointer (some ⟨b, 0, none⟩), .int .i64 m] w fun e w' => e = .returned (.tuple #[]) ∧ WSt G lb b l (x.moved l m) w' ∧ Kp (fun j => ¬ G j) w w' := by
  refine (h.ap.call2 (α := Unit) (X' := fun _ P w => WP P w b lb (x.moved l m)) (φ := fun _ e => e = .returned (.tuple #[])) (WP.live b lb x) (fun _ => WP.live b lb _) (PL.live lb l) h.lt fun P Q hP hQ hf hd => (moved_any m w hQ h.good hP hd).mono fun e w' ⟨h1, h2, h3⟩ => ⟨(), h1, h2, h3⟩).mono ?_
  rintro e w' ⟨_, he, hA, hK⟩
  exact ⟨he, ⟨hA, h.good, fun j hj => Nat.lt_of_lt_of_le (h.lt j hj) hK.size⟩, hK⟩
theorem WSt.rate (h : WSt G lb b l x w) (c a : Int) (ha : In64 a) : Calls Try.prog 28 #[.pointer (some ⟨b, 0, none⟩), .int .i64 c, .int .i64 a] w (DoneW G lb b ((x.rate c a).1, l, (x.rate c a).2) w) := by
  refine (h.ap.call (α := Unit) (X' := fun _ P w => WP P w b lb (x.rate c a).2) (φ := fun _ e => e = .returned (.int .i64 (x.rate c a).1)) (WP.live b lb x) (fun _ => WP.live b lb _) (PL.live lb l) h.lt fun P hP hf => (rate_any c a w hP ha hf).mono fun e w' ⟨h1, h2, h3⟩ => ⟨(), h1, h2, h3⟩).mono ?_
  rintro e w' ⟨_, he, hA, hK⟩
  exact ⟨he, ⟨hA, h.good, fun j hj => Nat.lt_of_lt_of_le (h.lt j hj) hK.size⟩, hK⟩
theorem WSt.cutt (h : WSt G lb b l x w) (c a : Int) (ha : In64 a) : Calls Try.prog 25 #[.pointer (some ⟨b, 0, none⟩), .int .i64 c, .int .i64 a] w (DoneW G lb b ((x.cutt c a).1, l, (x.cutt c a).2) w) := by
  refine (h.ap.call (α := Unit) (X' := fun _ P w => WP P w b lb (x.cutt c a).2) (φ := fun _ e => e = .returned (.int .i64 (x.cutt c a).1)) (WP.live b lb x) (fun _ => WP.live b lb _) (PL.live lb l) h.lt fun P hP hf => (cutt_any c a w hP ha hf).mono fun e w' ⟨h1, h2, h3⟩ => ⟨(), h1, h2, h3⟩).mono ?_
  rintro e w' ⟨_, he, hA, hK⟩
  exact ⟨he, ⟨hA, h.good, fun j hj => Nat.lt_of_lt_of_le (h.lt j hj) hK.size⟩, hK⟩
end
/-- an operation's box -/
def OB (w : World) (k : Nat) (o : WOp) : Prop := w.heap[k]? = some (.cells o.arr 40 (0, 0))
theorem OB.cells {w : World} {k : Nat} {o : WOp} (h : OB w k o) : w.cell? ⟨k, 0, none⟩ = some (.int .i64 o.Do) ∧ w.cell? ⟨k, 1, none⟩ = some (.int .i64 o.m) ∧ w.cell? ⟨k, 2, none⟩ = some (.int .i64 o.c) ∧ w.cell? ⟨k, 3, none⟩ = some (.int .i64 o.a) ∧ w.cell? ⟨k, 4, none⟩ = some (.slice o.p o.len o.cap) :=
  ⟨obj_cell h rfl, obj_cell h rfl, obj_cell h rfl, obj_cell h rfl, obj_cell h rfl⟩
theorem OB.kept {w w' : World} {k : Nat} {o : WOp} {G : Nat → Prop} (h : OB w k o) (hK : Kp (fun j => ¬ G j) w w') (hg : G k) : OB w' k o := (hK.block _ (obj_lt h) (fun e => e hg)).trans h
theorem WSt.less {G G' : Nat → Prop} {lb b : Nat} {l : LM} {x : WM} {w : World} (h : WSt G' lb b l x w) (hG : ∀ j, G j → G' j) : WSt G lb b l x w := ⟨h.ap.less hG, h.good, fun j hj => h.lt j (hG j hj)⟩
theorem WSt.more {G G' : Nat → Prop} {lb b : Nat} {l : LM} {x : WM} {w w' : World} (h : WSt G lb b l x w) (hb : Below w.heap.size w w') (hG : ∀ j, j < w.heap.size → G' j → G j) (hl : ∀ j, G' j → j < w'.heap.size) : WSt G' lb b l x w' := ⟨h.ap.more (WP.live b lb x) (PL.live lb l) hb hG, h.good, hl⟩

/-- Post's way behind it: k members are taken -/
structure DSt (G : Nat → Prop) (w : World) (lb b : Nat) (l : LM) (x : WM) (o : WOp) (k0 k : Nat) (wr : World) : Prop where
  st : WSt G lb b l (x.all l k) wr
  box : OB wr k0 o
  kp : Kp (fun j => ¬ G j) w wr

set_option maxHeartbeats 8000000 in
set_option maxRecDepth 100000 in
theorem dow_any {G : Nat → Prop} {lb b : Nat} {l : LM} {x : WM} (o : WOp) (w : World) (h : WSt G lb b l x w) (ho : o.Ok w) (hlen : o.len ≤ 30) (hn16 : x.nm ≤ 16) :
    Calls Try.prog 13 #[.pointer (some ⟨lb, 0, none⟩), .pointer (some ⟨b, 0, none⟩), .int .i64 (x.nm : Int), .agg o.arr] w (DoneW G lb b (opW l x o) w) := by
  have hB : Below w.heap.size w (w.alloc (.cells o.arr 40)) := (Below.refl _ _).alloc (Nat.le_refl _) _
  have hbx : OB (w.alloc (.cells o.arr 40)) w.heap.size o := heap_alloc_new w _
  obtain ⟨H, hH⟩ : ∃ H : Nat → Prop, ∀ j, H j ↔ G j ∨ j = w.heap.size := ⟨_, fun j => Iff.rfl⟩
  have h1 : WSt H lb b l x (w.alloc (.cells o.arr 40)) := h.more hB (fun j hj hg => by rcases (hH j).1 hg with hg | hg; exact hg; omega) (fun j hj => by
    rcases (hH j).1 hj with hj | rfl
    · have := h.lt j hj; simp; omega
    · simp)
  have hend : ∀ (e : Ending) (r : Int × LM × WM) (w' : World), r = opW l x o → e = .returned (.int .i64 r.1) → WSt H lb b r.2.1 r.2.2 w' → Kp (fun j => ¬ H j) (w.alloc (.cells o.arr 40)) w' → DoneW G lb b (opW l x o) w e w' := fun e r w' h1 h2 h3 h4 => by
    rw [← h1]
    exact ⟨h2, h3.less fun j hj => (hH j).2 (.inl hj), (Kp.of_below hB).trans (h4.mono fun j hj hg hgg => hg ((hH j).2 (.inl hgg)))⟩
  have hrow := ho.b.kept hB
  have hg0 : H w.heap.size := (hH _).2 (.inr rfl)
  generalize hv : w.alloc (.cells o.arr 40) = v at *
  clear hH
  obtain ⟨z0, z1, z2, z3, z4⟩ := hbx.cells
  unfold WOp.arr at hv ⊢
  have ha := ho.a
  replace ho := Lib.hid ho
  replace h := Lib.hid h
  replace hend := Lib.hid hend
  replace hrow := Lib.hid hrow
  replace hv := Lib.hid hv
  replace hB := Lib.hid hB
  replace hg0 := Lib.hid hg0
  by_cases d0 : o.Do = 0
  · have b0 : (o.Do == 0) = true := by simpa using d0
    have cI := h1.inn o.m o.c o.a ha
    have eop : (((l.inn o.m o.c o.a).1, (l.inn o.m o.c o.a).2, x.moved (l.inn o.m o.c o.a).2 o.m) : Int × LM × WM) = opW l x o := by unfold opW; rw [if_pos d0]
    generalize l.inn o.m o.c o.a = R at *
    replace cI := Lib.hid cI
    replace h1 := Lib.hid h1
    replace eop := Lib.hid eop
    replace hbx := Lib.hid hbx
    replace d0 := Lib.hid d0
    go_enter Try.func13, Try.ntmps13
    go_upto_region 1 with (fail)
    rw [hv.out]
    go_upto_region 5 with (first | (go_at_call 26; (with_reducible refine cI.out.mono ?_); rintro e w1 ⟨rfl, hS1, hK1⟩))
    have hbx1 := hbx.out.kept hK1 hg0.out
    obtain ⟨y0, y1, y2, y3, y4⟩ := hbx1.cells
    have cM := hS1.moved o.m
    replace cM := Lib.hid cM
    replace hS1 := Lib.hid hS1
    replace hbx1 := Lib.hid hbx1
    go_wp2_with (first | (go_at_call 33; (with_reducible refine cM.out.mono ?_); rintro e w2 ⟨rfl, hS2, hK2⟩; replace hS2 := Lib.hid hS2; replace hK2 := Lib.hid hK2))
    go_ret
    exact hend.out _ _ _ eop.out rfl hS2.out (hK1.trans hK2.out)
  have b0 : (o.Do == 0) = false := by simpa using d0
  by_cases d4 : o.Do = 4
  · have b4 : (o.Do == 4) = true := by simpa using d4
    have cI := h1.inn o.m o.c o.a ha
    have eop : (((l.inn o.m o.c o.a).1, (l.inn o.m o.c o.a).2, x) : Int × LM × WM) = opW l x o := by unfold opW; rw [if_neg d0, if_pos d4]
    generalize l.inn o.m o.c o.a = R at *
    replace cI := Lib.hid cI
    replace h1 := Lib.hid h1
    replace eop := Lib.hid eop
    replace hbx := Lib.hid hbx
    replace d0 := Lib.hid d0
    replace d4 := Lib.hid d4
    go_enter Try.func13, Try.ntmps13
    go_upto_region 1 with (fail)
    rw [hv.out]
    go_upto_region 5 with (first | (go_at_call 26; (with_reducible refine cI.out.mono ?_); rintro e w1 ⟨rfl, hS1, hK1⟩))
    have hbx1 := hbx.out.kept hK1 hg0.out
    obtain ⟨y0, y1, y2, y3, y4⟩ := hbx1.cells
    replace hS1 := Lib.hid hS1
    replace hK1 := Lib.hid hK1
    replace hbx1 := Lib.hid hbx1
    go_wp2_with fail
    go_ret
    exact hend.out _ _ _ eop.out rfl hS1.out hK1.out
  have b4 : (o.Do == 4) = false := by simpa using d4
  by_cases d1 : o.Do = 1
  · have b1 : (o.Do == 1) = true := by simpa using d1
    have cP := h1.post o.p o.len o.cap o.ps hrow.out hlen
    have eop : (((l.post o.ps).1, (l.post o.ps).2, x.all (l.post o.ps).2 x.nm) : Int × LM × WM) = opW l x o := by unfold opW; rw [if_neg d0, if_neg d4, if_pos d1]
    generalize l.post o.ps = R at *
    replace cP := Lib.hid cP
    replace h1 := Lib.hid h1
    replace eop := Lib.hid eop
    replace hbx := Lib.hid hbx
    replace d0 := Lib.hid d0
    replace d4 := Lib.hid d4
    replace d1 := Lib.hid d1
    go_enter Try.func13, Try.ntmps13
    go_upto_region 1 with (fail)
    rw [hv.out]
    go_upto_region 11 with (first | (go_at_call 27; (with_reducible refine cP.out.mono ?_); rintro e w1 ⟨rfl, hS1, hK1⟩))
    have hS0 : DSt H v lb b R.2 x o w.heap.size 0 w1 := ⟨by rw [all_zero]; exact hS1, hbx.out.kept hK1 hg0.out, hK1⟩
    replace hS1 := Lib.hid hS1
    replace hK1 := Lib.hid hK1
    replace hS0 := Lib.hid hS0
    go_loopw [11] (fun i wr => ∃ k : Nat, k ≤ x.nm ∧ i = .int .i64 (k : Int) ∧ Hid (DSt H v lb b R.2 x o w.heap.size k wr)) (fun i _ => x.nm - (intOf i).toNat)
    case atStart => exact ⟨0, by omega, rfl, hS0⟩
    case round =>
      obtain ⟨k, hk, rfl, hS⟩ := hrel
      by_cases hkl : k < x.nm
      · have hkz : (k : Int) < (x.nm : Int) := by omega
        have cM := hS.out.st.moved (k : Int)
        rw [all_step x R.2 hkl] at cM
        replace cM := Lib.hid cM
        go_wp2_with (first | (go_at_call 33; (with_reducible refine cM.out.mono ?_); rintro e w2 ⟨rfl, hS2, hK2⟩; have hS3 : Hid (DSt H v lb b R.2 x o w.heap.size (k + 1) w2) := Lib.hid ⟨hS2, hS.out.box.kept hK2 hg0.out, hS.out.kp.trans hK2⟩; replace hS2 := Lib.hid hS2; replace hK2 := Lib.hid hK2))
        go_roundw
        case rel => exact ⟨k + 1, by omega, by go_num, hS3⟩
        case measure => simp [intOf]; omega
      · obtain rfl : k = x.nm := by omega
        have hkz : ¬ (x.nm : Int) < (x.nm : Int) := by omega
        go_wp2_with fail
        go_ret
        exact hend.out _ _ _ eop.out rfl hS.out.st hS.out.kp
  have b1 : (o.Do == 1) = false := by simpa using d1
  by_cases d2 : o.Do = 2
  · have b2 : (o.Do == 2) = true := by simpa using d2
    have cR := h1.rate o.c o.a ha
    have eop : (((x.rate o.c o.a).1, l, (x.rate o.c o.a).2) : Int × LM × WM) = opW l x o := by unfold opW; rw [if_neg d0, if_neg d4, if_neg d1, if_pos d2]
    generalize x.rate o.c o.a = R at *
    replace cR := Lib.hid cR
    replace h1 := Lib.hid h1
    replace eop := Lib.hid eop
    replace hbx := Lib.hid hbx
    replace d0 := Lib.hid d0
    replace d4 := Lib.hid d4
    replace d1 := Lib.hid d1
    replace d2 := Lib.hid d2
    go_enter Try.func13, Try.ntmps13
    go_upto_region 1 with (fail)
    rw [hv.out]
    go_wp2_with (first | (go_at_call 28; (with_reducible refine cR.out.mono ?_); rintro e w1 ⟨rfl, hS1, hK1⟩; replace hS1 := Lib.hid hS1; replace hK1 := Lib.hid hK1))
    go_ret
    exact hend.out _ _ _ eop.out rfl hS1.out hK1.out
  have b2 : (o.Do == 2) = false := by simpa using d2
  by_cases d3 : o.Do = 3
  · have b3 : (o.Do == 3) = true := by simpa using d3
    have cR := h1.cutt o.c o.a ha
    have eop : (((x.cutt o.c o.a).1, l, (x.cutt o.c o.a).2) : Int × LM × WM) = opW l x o := by unfold opW; rw [if_neg d0, if_neg d4, if_neg d1, if_neg d2, if_pos d3]
    generalize x.cutt o.c o.a = R at *
    replace cR := Lib.hid cR
    replace h1 := Lib.hid h1
    replace eop := Lib.hid eop
    replace hbx := Lib.hid hbx
    replace d0 := Lib.hid d0
    replace d4 := Lib.hid d4
    replace d1 := Lib.hid d1
    replace d2 := Lib.hid d2
    replace d3 := Lib.hid d3
    go_enter Try.func13, Try.ntmps13
    go_upto_region 1 with (fail)
    rw [hv.out]
    go_wp2_with (first | (go_at_call 25; (with_reducible refine cR.out.mono ?_); rintro e w1 ⟨rfl, hS1, hK1⟩; replace hS1 := Lib.hid hS1; replace hK1 := Lib.hid hK1))
    go_ret
    exact hend.out _ _ _ eop.out rfl hS1.out hK1.out
  have b3 : (o.Do == 3) = false := by simpa using d3
  have cM := h1.moved o.m
  have eop : ((0, l, x.moved l o.m) : Int × LM × WM) = opW l x o := by unfold opW; rw [if_neg d0, if_neg d4, if_neg d1, if_neg d2, if_neg d3]
  replace cM := Lib.hid cM
  replace h1 := Lib.hid h1
  replace eop := Lib.hid eop
  replace hbx := Lib.hid hbx
  replace d0 := Lib.hid d0
  replace d4 := Lib.hid d4
  replace d1 := Lib.hid d1
  replace d2 := Lib.hid d2
  replace d3 := Lib.hid d3
  go_enter Try.func13, Try.ntmps13
  go_upto_region 1 with (fail)
  rw [hv.out]
  go_wp2_with (first | (go_at_call 33; (with_reducible refine cM.out.mono ?_); rintro e w1 ⟨rfl, hS1, hK1⟩; replace hS1 := Lib.hid hS1; replace hK1 := Lib.hid hK1))
  go_ret
  exact hend.out _ _ _ eop.out rfl hS1.out hK1.out
end Go.Proofs.Ytllhpdohahoelaa
