/- Two things in memory that lie apart, beside what stays; what a program's journal must keep to (contracts that the laws are walked with). -/
import Derived.Test.YtidofjjghbhaaaaJL0
namespace Go.Proofs.Ytidofjjghbhaaaa
open Go.RowKit
set_option linter.unusedVariables false

/-- a thing in memory, with its blocks -/
structure Live (X : (Nat → Prop) → World → Prop) : Prop where
  kept : ∀ {P : Nat → Prop} {w w' : World} {F : Nat → Prop}, X P w → Kp F w w' → (∀ j, j < w.heap.size → P j → ¬ F j) → X P w'
  weak : ∀ {P Q : Nat → Prop} {w : World}, X P w → (∀ j, j < w.heap.size → P j → Q j) → X Q w

/-- two things that lie apart, beside what stays -/
def Apart (G : Nat → Prop) (X Y : (Nat → Prop) → World → Prop) (w : World) : Prop :=
  ∃ PF RF : Nat → Prop, X PF w ∧ Y RF w ∧ (∀ j, PF j → ¬ RF j ∧ ¬ G j ∧ j < w.heap.size) ∧ (∀ j, RF j → ¬ G j ∧ j < w.heap.size)

theorem Apart.swap {G : Nat → Prop} {X Y : (Nat → Prop) → World → Prop} {w : World} (h : Apart G X Y w) : Apart G Y X w := by
  obtain ⟨PF, RF, hX, hY, h1, h2⟩ := h
  exact ⟨RF, PF, hY, hX, fun j hj => ⟨fun hp => (h1 j hp).1 hj, h2 j hj⟩, fun j hj => (h1 j hj).2⟩
/-- a call of the first one's -/
theorem Apart.call {α : Type} {G : Nat → Prop} {X Y : (Nat → Prop) → World → Prop} {X' : α → (Nat → Prop) → World → Prop} {φ : α → Ending → Prop} {w : World} {f : FuncId} {args : Array Value}
    (lX : Live X) (lX' : ∀ x, Live (X' x)) (lY : Live Y) (hG : ∀ j, G j → j < w.heap.size) (h : Apart G X Y w)
    (hc : ∀ P : Nat → Prop, X P w → (∀ i, w.heap.size ≤ i → P i) → Calls Try.prog f args w fun e w' => ∃ x, φ x e ∧ X' x P w' ∧ Kp P w w') :
    Calls Try.prog f args w fun e w' => ∃ x, φ x e ∧ Apart G (X' x) Y w' ∧ Kp (fun j => ¬ G j) w w' := by
  obtain ⟨PF, RF, hX, hY, h1, h2⟩ := h
  refine (hc (fun j => PF j ∨ w.heap.size ≤ j) (lX.weak hX fun j _ hj => .inl hj) (fun i hi => .inr hi)).mono ?_
  rintro e w' ⟨x, he, hx, hK⟩
  refine ⟨x, he, ⟨fun j => (PF j ∨ w.heap.size ≤ j) ∧ j < w'.heap.size, RF, (lX' x).weak hx fun j hl hj => ⟨hj, hl⟩, lY.kept hY hK fun j hl hr hp => ?_, fun j hj => ⟨fun hr => ?_, fun hg => ?_, hj.2⟩, fun j hj => ⟨(h2 j hj).1, Nat.lt_of_lt_of_le (h2 j hj).2 hK.size⟩⟩, hK.mono fun j hl hp hg => ?_⟩
  · rcases hp with hp | hp
    · exact (h1 j hp).1 hr
    · omega
  · rcases hj.1 with hp | hp
    · exact (h1 j hp).1 hr
    · have := (h2 j hr).2; omega
  · rcases hj.1 with hp | hp
    · exact (h1 j hp).2.1 hg
    · have := hG j hg; omega
  · rcases hp with hp | hp
    · exact (h1 j hp).2.1 hg
    · omega
/-- a call that only reads, or makes what is new -/
theorem Apart.below {G : Nat → Prop} {X Y : (Nat → Prop) → World → Prop} {w w' : World} (lX : Live X) (lY : Live Y) (h : Apart G X Y w) (hb : Below w.heap.size w w') : Apart G X Y w' := by
  obtain ⟨PF, RF, hX, hY, h1, h2⟩ := h
  have k := Kp.of_below (F := fun _ => False) hb
  exact ⟨PF, RF, lX.kept hX k (fun _ _ _ h => h), lY.kept hY k (fun _ _ _ h => h), fun j hj => ⟨(h1 j hj).1, (h1 j hj).2.1, Nat.lt_of_lt_of_le (h1 j hj).2.2 hb.size⟩, fun j hj => ⟨(h2 j hj).1, Nat.lt_of_lt_of_le (h2 j hj).2 hb.size⟩⟩
/-- more stays: what has been made since -/
theorem Apart.more {G G' : Nat → Prop} {X Y : (Nat → Prop) → World → Prop} {w w' : World} (lX : Live X) (lY : Live Y) (h : Apart G X Y w) (hb : Below w.heap.size w w') (hG : ∀ j, j < w.heap.size → G' j → G j) : Apart G' X Y w' := by
  obtain ⟨PF, RF, hX, hY, h1, h2⟩ := h
  have k := Kp.of_below (F := fun _ => False) hb
  exact ⟨PF, RF, lX.kept hX k (fun _ _ _ h => h), lY.kept hY k (fun _ _ _ h => h), fun j hj => ⟨(h1 j hj).1, fun hg => (h1 j hj).2.1 (hG j (h1 j hj).2.2 hg), Nat.lt_of_lt_of_le (h1 j hj).2.2 hb.size⟩, fun j hj => ⟨fun hg => (h2 j hj).1 (hG j (h2 j hj).2 hg), Nat.lt_of_lt_of_le (h2 j hj).2 hb.size⟩⟩
/-- what the first one is -/
theorem Apart.map {G : Nat → Prop} {X X' Y : (Nat → Prop) → World → Prop} {w : World} (h : Apart G X Y w) (f : ∀ P, X P w → X' P w) : Apart G X' Y w := by
  obtain ⟨PF, RF, hX, hY, r⟩ := h; exact ⟨PF, RF, f _ hX, hY, r⟩

theorem liveD (d : Nat) (m : DM) : Live fun P w => IsD P w d m := ⟨fun h k hf => h.kept k hf, fun h hq => h.weak hq⟩
theorem liveR (r : Nat) (m : DM) : Live fun P w => IsR w r m ∧ P r := ⟨fun h k hf => ⟨h.1.kept k (hf r (obj_lt h.1) h.2), h.2⟩, fun h hq => ⟨h.1, hq r (obj_lt h.1) h.2⟩⟩
theorem RJ.keptK {P F : Nat → Prop} {w w' : World} {jb db : Nat} {m : DM} {j : JM} (h : RJ P w jb db m j) (hK : Kp F w w') (hF : ∀ j, j < w.heap.size → P j → ¬ F j) : RJ P w' jb db m j := by
  obtain ⟨h1, ⟨p, cap, h2, h3, h4⟩, h5, h6, h7⟩ := h
  refine ⟨h1.kept hK (hF db (obj_lt h1) h7), ⟨p, cap, (hK.block jb (obj_lt h2) (hF jb (obj_lt h2) h6)).trans h2, ?_, fun a e => ⟨(h4 a e).1, (h4 a e).2.1, (h4 a e).2.2.1, Nat.lt_of_lt_of_le (h4 a e).2.2.2 hK.size⟩⟩, h5, h6, h7⟩
  obtain ⟨g1, g2⟩ := h3
  refine ⟨g1, g2.imp id ?_⟩
  rintro ⟨b, off, rfl, hlt, hc⟩
  refine ⟨b, off, rfl, Nat.lt_of_lt_of_le hlt hK.size, fun i hi => ?_⟩
  rw [World.cell?_of_block (w := w) (w' := w') (a := ⟨b, off + i, none⟩) (hK.block b hlt (hF b hlt (h4 _ rfl).1))]; exact hc i hi
theorem RJ.weak {P Q : Nat → Prop} {w : World} {jb db : Nat} {m : DM} {j : JM} (h : RJ P w jb db m j) (hq : ∀ j, j < w.heap.size → P j → Q j) : RJ Q w jb db m j := by
  obtain ⟨h1, ⟨p, cap, h2, h3, h4⟩, h5, h6, h7⟩ := h
  exact ⟨h1, ⟨p, cap, h2, h3, fun a e => ⟨hq _ (h4 a e).2.2.2 (h4 a e).1, (h4 a e).2⟩⟩, h5, hq _ (obj_lt h2) h6, hq _ (obj_lt h1) h7⟩
theorem liveRJ (jb r : Nat) (m : DM) (j : JM) : Live fun P w => RJ P w jb r m j := ⟨fun h k hf => h.keptK k hf, fun h hq => h.weak hq⟩

/-- the program's journal: what its functions keep to -/
structure JI where
  IsJ : (Nat → Prop) → World → Nat → Nat → DM → JM → Prop
  live : ∀ jb d m j, Live fun P w => IsJ P w jb d m j
  disk : ∀ {P w jb d m j}, IsJ P w jb d m j → IsD P w d m
  nil : ∀ w, Calls Try.prog 15 #[.pointer none] w fun e w' => e = .returned (.tuple #[.pointer none, .int .i64 1]) ∧ Below w.heap.size w w'
  opens : ∀ (P : Nat → Prop) (d : Nat) (m : DM) (w : World), IsD P w d m → m.Ok → (∀ i, w.heap.size ≤ i → P i) → Calls Try.prog 15 #[.pointer (some ⟨d, 0, none⟩)] w fun e w' => ∃ jb : Nat,
    (e = .returned (.tuple #[(match (openJ m).2.2 with | none => .pointer none | some _ => .pointer (some ⟨jb, 0, none⟩)), .int .i64 (openJ m).1])) ∧
    (match (openJ m).2.2 with | none => IsD P w' d (openJ m).2.1 | some j => IsJ P w' jb d (openJ m).2.1 j) ∧ Kp P w w'
  app : ∀ (P : Nat → Prop) (jb d : Nat) (m : DM) (j : JM) (s : ByteArray) (w : World), IsJ P w jb d m j → m.Ok → (∀ i, w.heap.size ≤ i → P i) → s.size ≤ 40000 → j.last < 9223372036854000000 → j.recs.length < 33000000 →
    Calls Try.prog 21 #[.pointer (some ⟨jb, 0, none⟩), .string s] w fun e w' => e = .returned (.int .i64 (appJ m j (bl s)).1) ∧ IsJ P w' jb d (appJ m j (bl s)).2.1 (appJ m j (bl s)).2.2 ∧ Kp P w w'
  snap : ∀ (P : Nat → Prop) (jb d : Nat) (m : DM) (j : JM) (s : ByteArray) (w : World), IsJ P w jb d m j → m.Ok → (∀ i, w.heap.size ≤ i → P i) → s.size ≤ 40000 → j.last < 9223372036854000000 →
    Calls Try.prog 23 #[.pointer (some ⟨jb, 0, none⟩), .string s] w fun e w' => e = .returned (.int .i64 (snapJ m j (bl s)).1) ∧ IsJ P w' jb d (snapJ m j (bl s)).2.1 (snapJ m j (bl s)).2.2 ∧ Kp P w w'
  text : ∀ {P jb d m j w}, IsJ P w jb d m j → Calls Try.prog 25 #[.pointer (some ⟨jb, 0, none⟩)] w fun e w' => e = .returned (.tuple #[sv j.text, .int .i64 (j.base : Nat)]) ∧ ∃ n, w' = w.drewN n
  last : ∀ {P jb d m j w}, IsJ P w jb d m j → j.last < 9223372036854000000 → Calls Try.prog 26 #[.pointer (some ⟨jb, 0, none⟩)] w fun e w' => e = .returned (.int .i64 (j.last : Nat)) ∧ ∃ n, w' = w.drewN n
  records : ∀ {P jb d m j w}, IsJ P w jb d m j → j.recs.length < 33000000 → Calls Try.prog 28 #[.pointer (some ⟨jb, 0, none⟩)] w fun e w' => (∃ p cap, e = .returned (.slice p j.recs.length cap) ∧ SRow w' p j.recs.length j.recs) ∧ Below w.heap.size w w'
  fuse : ∀ {P jb d m j w} (n : Int), IsJ P w jb d m j → Calls Try.prog 18 #[.pointer (some ⟨d, 0, none⟩), .int .i64 n] w fun e w' => e = .returned (.tuple #[]) ∧ IsJ P w' jb d (m.setf n) j ∧ Kp P w w'
end Go.Proofs.Ytidofjjghbhaaaa
