/- Two things in memory that lie apart; what the program's ledger must keep to; an operation of the law's; do over any ledger that keeps its contracts. -/
import Derived.Test.YtghebijikdnikaaLG2
import Derived.Test.YtghebijikdnikaaLG6
namespace Go.Proofs.Ytghebijikdnikaa
open Go.RowKit
set_option linter.unusedVariables false

/-- a thing in memory, with its blocks -/
structure Live (X : (Nat → Prop) → World → Prop) : Prop where
  kept : ∀ {P : Nat → Prop} {w w' : World} {F : Nat → Prop}, X P w → Kp F w w' → (∀ j, j < w.heap.size → P j → ¬ F j) → X P w'
  weak : ∀ {P Q : Nat → Prop} {w : World}, X P w → (∀ j, j < w.heap.size → P j → Q j) → X Q w

/-- two things that lie apart, beside what stays -/
def Apart (G : Nat → Prop) (X Y : (Nat → Prop) → World → Prop) (w : World) : Prop :=
  ∃ PF RF : Nat → Prop, X PF w ∧ Y RF w ∧ (∀ j, PF j → ¬ RF j ∧ ¬ G j ∧ j < w.heap.size) ∧ (∀ j, RF j → ¬ G j ∧ j < w.heap.size)

theorem Apart.swap {G : Nat → Prop} {X Y : (Nat → Prop) → World → Prop} {w : World} (h : Apart G X Y w) : Apart G Y X w := by
  obtain ⟨PF, RF, hX, hY, h1, h2⟩ := h
  exact ⟨RF, PF, hY, hX, fun j hj => ⟨fun hp => (h1 j hp).1 hj, h2 j hj⟩, fun j hj => (h1 j hj).2⟩
/-- a call of the first one's -/
theorem Apart.call {α : Type} {G : Nat → Prop} {X Y : (Nat → Prop) → World → Prop} {X' : α → (Nat → Prop) → World → Prop} {φ : α → Ending → Prop} {w : World} {f : FuncId} {args : Array Value}
    (lX : Live X) (lX' : ∀ x, Live (X' x)) (lY : Live Y) (hG : ∀ j, G j → j < w.heap.size) (h : Apart G X Y w)
    (hc : ∀ P : Nat → Prop, X P w → (∀ i, w.heap.size ≤ i → P i) → Calls Try.prog f args w fun e w' => ∃ x, φ x e ∧ X' x P w' ∧ Kp P w w') :
    Calls Try.prog f args w fun e w' => ∃ x, φ x e ∧ Apart G (X' x) Y w' ∧ Kp (fun j => ¬ G j) w w' := by
  obtain ⟨PF, RF, hX, hY, h1, h2⟩ := h
  refine (hc (fun j => PF j ∨ w.heap.size ≤ j) (lX.weak hX fun j _ hj => .inl hj) (fun i hi => .inr hi)).mono ?_
  rintro e w' ⟨x, he, hx, hK⟩
  refine ⟨x, he, ⟨fun j => (PF j ∨ w.heap.size ≤ j) ∧ j < w'.heap.size, RF, (lX' x).weak hx fun j hl hj => ⟨hj, hl⟩, lY.kept hY hK fun j hl hr hp => ?_, fun j hj => ⟨fun hr => ?_, fun hg => ?_, hj.2⟩, fun j hj => ⟨(h2 j hj).1, Nat.lt_of_lt_of_le (h2 j hj).2 hK.size⟩⟩, hK.mono fun j hl hp hg => ?_⟩
  · rcases hp with hp | hp
    · exact (h1 j hp).1 hr
    · omega
  · rcases hj.1 with hp | hp
    · exact (h1 j hp).1 hr
    · have := (h2 j hr).2; omega
  · rcases hj.1 with hp | hp
    · exact (h1 j hp).2.1 hg
    · have := hG j hg; omega
  · rcases hp with hp | hp
    · exact (h1 j hp).2.1 hg
    · omega
/-- a call that only reads, or makes what is new -/
theorem Apart.below {G : Nat → Prop} {X Y : (Nat → Prop) → World → Prop} {w w' : World} (lX : Live X) (lY : Live Y) (h : Apart G X Y w) (hb : Below w.heap.size w w') : Apart G X Y w' := by
  obtain ⟨PF, RF, hX, hY, h1, h2⟩ := h
  have k := Kp.of_below (F := fun _ => False) hb
  exact ⟨PF, RF, lX.kept hX k (fun _ _ _ h => h), lY.kept hY k (fun _ _ _ h => h), fun j hj => ⟨(h1 j hj).1, (h1 j hj).2.1, Nat.lt_of_lt_of_le (h1 j hj).2.2 hb.size⟩, fun j hj => ⟨(h2 j hj).1, Nat.lt_of_lt_of_le (h2 j hj).2 hb.size⟩⟩
/-- more stays: what has been made since -/
theorem Apart.more {G G' : Nat → Prop} {X Y : (Nat → Prop) → World → Prop} {w w' : World} (lX : Live X) (lY : Live Y) (h : Apart G X Y w) (hb : Below w.heap.size w w') (hG : ∀ j, j < w.heap.size → G' j → G j) : Apart G' X Y w' := by
  obtain ⟨PF, RF, hX, hY, h1, h2⟩ := h
  have k := Kp.of_below (F := fun _ => False) hb
  exact ⟨PF, RF, lX.kept hX k (fun _ _ _ h => h), lY.kept hY k (fun _ _ _ h => h), fun j hj => ⟨(h1 j hj).1, fun hg => (h1 j hj).2.1 (hG j (h1 j hj).2.2 hg), Nat.lt_of_lt_of_le (h1 j hj).2.2 hb.size⟩, fun j hj => ⟨fun hg => (h2 j hj).1 (hG j (h2 j hj).2 hg), Nat.lt_of_lt_of_le (h2 j hj).2 hb.size⟩⟩
/-- what the first one is -/
theorem Apart.map {G : Nat → Prop} {X X' Y : (Nat → Prop) → World → Prop} {w : World} (h : Apart G X Y w) (f : ∀ P, X P w → X' P w) : Apart G X' Y w := by
  obtain ⟨PF, RF, hX, hY, r⟩ := h; exact ⟨PF, RF, f _ hX, hY, r⟩


/-- a row of postings that is read -/
def PRow (w : World) (p : Option Addr) (len : Nat) (ps : List Pst) : Prop :=
  ps.length = len ∧ (∀ q ∈ ps, In64 q.m ∧ In64 q.c ∧ In64 q.a) ∧ (len = 0 ∨ ∃ b off, p = some ⟨b, off, none⟩ ∧ b < w.heap.size ∧ ∀ i q, ps[i]? = some q →
    w.cell? ⟨b, off + i * 3, none⟩ = some (.int .i64 q.m) ∧ w.cell? ⟨b, off + i * 3 + 1, none⟩ = some (.int .i64 q.c) ∧ w.cell? ⟨b, off + i * 3 + 2, none⟩ = some (.int .i64 q.a))
theorem PRow.kept {w w' : World} {p : Option Addr} {len : Nat} {ps : List Pst} (h : PRow w p len ps) (hb : Below w.heap.size w w') : PRow w' p len ps := by
  obtain ⟨h1, h2, h3⟩ := h
  refine ⟨h1, h2, h3.imp id ?_⟩
  rintro ⟨b, off, rfl, hlt, hc⟩
  refine ⟨b, off, rfl, Nat.lt_of_lt_of_le hlt hb.size, fun i q hq => ?_⟩
  obtain ⟨c0, c1, c2⟩ := hc i q hq
  exact ⟨(hb.cell (p := ⟨b, off + i * 3, none⟩) hlt).trans c0, (hb.cell (p := ⟨b, off + i * 3 + 1, none⟩) hlt).trans c1, (hb.cell (p := ⟨b, off + i * 3 + 2, none⟩) hlt).trans c2⟩
/-- an operation of the law's -/
structure LOp where
  Do : Int
  m : Int
  c : Int
  v : Int
  a : Int
  g : Int
  p : Option Addr
  len : Nat
  cap : Nat
  ps : List Pst
def LOp.arr (x : LOp) : Array Value := #[.int .i64 x.Do, .int .i64 x.m, .int .i64 x.c, .int .i64 x.v, .int .i64 x.a, .int .i64 x.g, .slice x.p x.len x.cap]
structure LOp.Ok (x : LOp) (w : World) : Prop where
  a : In64 x.a
  g : In64 x.g
  b : PRow w x.p x.len x.ps
/-- what it makes of a ledger -/
def LM.doo (l : LM) (x : LOp) : Int × LM :=
  if x.Do = 0 then l.inn x.m x.c x.a else if x.Do = 1 then l.out x.m x.c x.a else if x.Do = 3 then l.swap x.m x.c x.v x.a x.g else l.post x.ps
theorem doo_good {l : LM} (h : l.Good) (x : LOp) : (l.doo x).2.Good ∧ l.like (l.doo x).2 ∧ ((l.doo x).1 ≠ 0 → (l.doo x).2 = l) := by
  unfold LM.doo
  split
  · exact inn_good h _ _ _
  split
  · exact out_good h _ _ _
  split
  · exact swap_good h _ _ _ _ _
  · exact post_good h _
/-- the program's ledger: what its functions keep to -/
structure LI where
  IsL : (Nat → Prop) → World → Nat → LM → Prop
  live : ∀ b l, Live fun P w => IsL P w b l
  new : ∀ (nm nc : Int) (w : World), Calls Try.prog 9 #[.int .i64 nm, .int .i64 nc] w fun e w' =>
    (newOk nm nc = true → ∃ b, e = .returned (.tuple #[.pointer (some ⟨b, 0, none⟩), .int .i64 0]) ∧ IsL (fun j => w.heap.size ≤ j) w' b (LM.new nm.toNat nc.toNat)) ∧
    (newOk nm nc = false → e = .returned (.tuple #[.pointer none, .int .i64 1])) ∧ Below w.heap.size w w'
  inn : ∀ (P : Nat → Prop) (b : Nat) (l : LM) (m c a : Int) (w : World), IsL P w b l → l.Good → In64 a → (∀ i, w.heap.size ≤ i → P i) →
    Calls Try.prog 24 #[.pointer (some ⟨b, 0, none⟩), .int .i64 m, .int .i64 c, .int .i64 a] w fun e w' => e = .returned (.int .i64 (l.inn m c a).1) ∧ IsL P w' b (l.inn m c a).2 ∧ Kp P w w'
  out : ∀ (P : Nat → Prop) (b : Nat) (l : LM) (m c a : Int) (w : World), IsL P w b l → l.Good → In64 a → (∀ i, w.heap.size ≤ i → P i) →
    Calls Try.prog 25 #[.pointer (some ⟨b, 0, none⟩), .int .i64 m, .int .i64 c, .int .i64 a] w fun e w' => e = .returned (.int .i64 (l.out m c a).1) ∧ IsL P w' b (l.out m c a).2 ∧ Kp P w w'
  swap : ∀ (P : Nat → Prop) (b : Nat) (l : LM) (m q v a g : Int) (w : World), IsL P w b l → l.Good → In64 a → In64 g → (∀ i, w.heap.size ≤ i → P i) →
    Calls Try.prog 28 #[.pointer (some ⟨b, 0, none⟩), .int .i64 m, .int .i64 q, .int .i64 v, .int .i64 a, .int .i64 g] w fun e w' => e = .returned (.int .i64 (l.swap m q v a g).1) ∧ IsL P w' b (l.swap m q v a g).2 ∧ Kp P w w'
  post : ∀ (P : Nat → Prop) (b : Nat) (l : LM) (p : Option Addr) (len cap : Nat) (ps : List Pst) (w : World), IsL P w b l → l.Good → PRow w p len ps → len ≤ 30 → (∀ i, w.heap.size ≤ i → P i) →
    Calls Try.prog 23 #[.pointer (some ⟨b, 0, none⟩), .slice p len cap] w fun e w' => e = .returned (.int .i64 (l.post ps).1) ∧ IsL P w' b (l.post ps).2 ∧ Kp P w w'
  text : ∀ {P b l w}, IsL P w b l → l.Good → Calls Try.prog 16 #[.pointer (some ⟨b, 0, none⟩)] w fun e w' => e = .returned (sv l.text) ∧ Below w.heap.size w w'
  get : ∀ {P b l w} (m c : Int), IsL P w b l → Calls Try.prog 18 #[.pointer (some ⟨b, 0, none⟩), .int .i64 m, .int .i64 c] w fun e w' => e = .returned (.int .i64 (l.get m c)) ∧ Below w.heap.size w w'
  nos : ∀ {P b l w} (c : Int), IsL P w b l → Calls Try.prog 20 #[.pointer (some ⟨b, 0, none⟩), .int .i64 c] w fun e w' => e = .returned (.int .i64 (l.nos c)) ∧ Below w.heap.size w w'
  size : ∀ {P b l w}, IsL P w b l → Calls Try.prog 26 #[.pointer (some ⟨b, 0, none⟩)] w fun e w' => e = .returned (.tuple #[.int .i64 (l.nm : Nat), .int .i64 (l.nc : Nat)]) ∧ Below w.heap.size w w'
  read : ∀ (s : ByteArray) (w : World), s.size ≤ 100000 → Calls Try.prog 22 #[.string s] w fun e w' =>
    (∀ l, readL (bl s) = (0, some l) → ∃ b, e = .returned (.tuple #[.pointer (some ⟨b, 0, none⟩), .int .i64 0]) ∧ IsL (fun j => w.heap.size ≤ j) w' b l) ∧
    ((readL (bl s)).2 = none → e = .returned (.tuple #[.pointer none, .int .i64 (readL (bl s)).1])) ∧ Below w.heap.size w w'

set_option maxHeartbeats 4000000 in
set_option maxRecDepth 100000 in
theorem do_any (I : LI) (P : Nat → Prop) (b : Nat) (l : LM) (x : LOp) (w : World) (h : I.IsL P w b l) (hg : l.Good) (hx : x.Ok w) (hlen : x.len ≤ 30) (hP : ∀ i, w.heap.size ≤ i → P i) :
    Calls Try.prog 11 #[.pointer (some ⟨b, 0, none⟩), .agg x.arr] w fun e w' => e = .returned (.int .i64 (l.doo x).1) ∧ I.IsL P w' b (l.doo x).2 ∧ Kp P w w' := by
  have hB0 : Below w.heap.size w (w.alloc (.cells x.arr 34)) := (Below.refl _ _).alloc (Nat.le_refl _) _
  have hbx := heap_alloc_new w (.cells x.arr 34)
  have h1 : I.IsL P (w.alloc (.cells x.arr 34)) b l := (I.live b l).kept h (Kp.of_below (F := fun _ => False) hB0) (fun _ _ _ h => h)
  have hP1 : ∀ i, (w.alloc (.cells x.arr 34)).heap.size ≤ i → P i := fun i hi => hP i (by simp at hi; omega)
  have hr1 := hx.b.kept hB0
  have hK0 : Kp P w (w.alloc (.cells x.arr 34)) := Kp.of_below hB0
  have ha := hx.a
  have hgv := hx.g
  unfold LOp.arr at *
  generalize hv : w.alloc (.cells #[.int .i64 x.Do, .int .i64 x.m, .int .i64 x.c, .int .i64 x.v, .int .i64 x.a, .int .i64 x.g, .slice x.p x.len x.cap] 34) = v at *
  have q0 : v.cell? ⟨w.heap.size, 0, none⟩ = some (.int .i64 x.Do) := obj_cell hbx rfl
  have q1 : v.cell? ⟨w.heap.size, 1, none⟩ = some (.int .i64 x.m) := obj_cell hbx rfl
  have q2 : v.cell? ⟨w.heap.size, 2, none⟩ = some (.int .i64 x.c) := obj_cell hbx rfl
  have q3 : v.cell? ⟨w.heap.size, 3, none⟩ = some (.int .i64 x.v) := obj_cell hbx rfl
  have q4 : v.cell? ⟨w.heap.size, 4, none⟩ = some (.int .i64 x.a) := obj_cell hbx rfl
  have q5 : v.cell? ⟨w.heap.size, 5, none⟩ = some (.int .i64 x.g) := obj_cell hbx rfl
  have q6 : v.cell? ⟨w.heap.size, 6, none⟩ = some (.slice x.p x.len x.cap) := obj_cell hbx rfl
  have cI := I.inn P b l x.m x.c x.a v h1 hg ha hP1
  have cO := I.out P b l x.m x.c x.a v h1 hg ha hP1
  have cS := I.swap P b l x.m x.c x.v x.a x.g v h1 hg ha hgv hP1
  have cT := I.post P b l x.p x.len x.cap x.ps v h1 hg hr1 hlen hP1
  unfold LM.doo
  replace hv := Lib.hid hv
  replace cI := Lib.hid cI
  replace cO := Lib.hid cO
  replace cS := Lib.hid cS
  replace cT := Lib.hid cT
  replace h1 := Lib.hid h1
  replace hP1 := Lib.hid hP1
  replace hP := Lib.hid hP
  replace h := Lib.hid h
  replace hr1 := Lib.hid hr1
  replace hbx := Lib.hid hbx
  replace hK0 := Lib.hid hK0
  replace hB0 := Lib.hid hB0
  replace hx := Lib.hid hx
  have hcase : ∀ (r : Int × LM) (e : Ending) (w' : World), (e = .returned (.int .i64 r.1) ∧ I.IsL P w' b r.2 ∧ Kp P v w') → (e = .returned (.int .i64 r.1) ∧ I.IsL P w' b r.2 ∧ Kp P w w') := fun r e w' h => ⟨h.1, h.2.1, hK0.out.trans h.2.2⟩
  replace hcase := Lib.hid hcase
  by_cases d0 : x.Do = 0
  · rw [if_pos d0]
    have b0 : (x.Do == 0) = true := by simpa using d0
    generalize l.inn x.m x.c x.a = r at *
    replace d0 := Lib.hid d0
    go_enter Try.func11, Try.ntmps11
    go_upto_region 1 with (fail)
    change Code.wp _ _ _ _ (w.alloc (.cells #[.int .i64 x.Do, .int .i64 x.m, .int .i64 x.c, .int .i64 x.v, .int .i64 x.a, .int .i64 x.g, .slice x.p x.len x.cap] 34))
    rw [hv.out]
    go_wp2_with fail
    with_reducible refine cI.out.mono ?_
    rintro e w1 ⟨rfl, hR⟩
    replace hR := Lib.hid hR
    go_wp2_with fail
    go_ret
    exact hcase.out r _ _ ⟨rfl, hR.out⟩
  rw [if_neg d0]
  have b0 : (x.Do == 0) = false := by simpa using d0
  by_cases d1 : x.Do = 1
  · rw [if_pos d1]
    have b1 : (x.Do == 1) = true := by simpa using d1
    generalize l.out x.m x.c x.a = r at *
    replace d0 := Lib.hid d0
    replace d1 := Lib.hid d1
    go_enter Try.func11, Try.ntmps11
    go_upto_region 1 with (fail)
    change Code.wp _ _ _ _ (w.alloc (.cells #[.int .i64 x.Do, .int .i64 x.m, .int .i64 x.c, .int .i64 x.v, .int .i64 x.a, .int .i64 x.g, .slice x.p x.len x.cap] 34))
    rw [hv.out]
    go_wp2_with fail
    with_reducible refine cO.out.mono ?_
    rintro e w1 ⟨rfl, hR⟩
    replace hR := Lib.hid hR
    go_wp2_with fail
    go_ret
    exact hcase.out r _ _ ⟨rfl, hR.out⟩
  rw [if_neg d1]
  have b1 : (x.Do == 1) = false := by simpa using d1
  by_cases d3 : x.Do = 3
  · rw [if_pos d3]
    have b3 : (x.Do == 3) = true := by simpa using d3
    generalize l.swap x.m x.c x.v x.a x.g = r at *
    replace d0 := Lib.hid d0
    replace d1 := Lib.hid d1
    replace d3 := Lib.hid d3
    go_enter Try.func11, Try.ntmps11
    go_upto_region 1 with (fail)
    change Code.wp _ _ _ _ (w.alloc (.cells #[.int .i64 x.Do, .int .i64 x.m, .int .i64 x.c, .int .i64 x.v, .int .i64 x.a, .int .i64 x.g, .slice x.p x.len x.cap] 34))
    rw [hv.out]
    go_wp2_with fail
    with_reducible refine cS.out.mono ?_
    rintro e w1 ⟨rfl, hR⟩
    replace hR := Lib.hid hR
    go_wp2_with fail
    go_ret
    exact hcase.out r _ _ ⟨rfl, hR.out⟩
  rw [if_neg d3]
  have b3 : (x.Do == 3) = false := by simpa using d3
  generalize l.post x.ps = r at *
  replace d0 := Lib.hid d0
  replace d1 := Lib.hid d1
  replace d3 := Lib.hid d3
  go_enter Try.func11, Try.ntmps11
  go_upto_region 1 with (fail)
  change Code.wp _ _ _ _ (w.alloc (.cells #[.int .i64 x.Do, .int .i64 x.m, .int .i64 x.c, .int .i64 x.v, .int .i64 x.a, .int .i64 x.g, .slice x.p x.len x.cap] 34))
  rw [hv.out]
  go_wp2_with fail
  with_reducible refine cT.out.mono ?_
  rintro e w1 ⟨rfl, hR⟩
  replace hR := Lib.hid hR
  go_wp2_with fail
  go_ret
  exact hcase.out r _ _ ⟨rfl, hR.out⟩
end Go.Proofs.Ytghebijikdnikaa
