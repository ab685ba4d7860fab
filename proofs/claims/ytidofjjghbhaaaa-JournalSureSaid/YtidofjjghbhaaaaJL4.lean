/- What the operations of the law make of a disk and a journal; what stays in bounds. -/
import Derived.Test.YtidofjjghbhaaaaJL3
namespace Go.Proofs.Ytidofjjghbhaaaa
set_option linter.unusedVariables false

theorem walk_len (base : Nat) : ∀ (l : List (List UInt8)) (prev : Option Nat) (rs : List (List UInt8)), walkR base prev l = some rs → rs.length ≤ l.length
  | [], prev, rs, h => by simp [walkR] at h; subst h; simp
  | a :: l, prev, rs, h => by
    rw [walkR] at h
    cases hn : num8 a with
    | none => rw [hn] at h; cases h
    | some n =>
      rw [hn] at h
      simp only at h
      split at h
      · cases h
      · cases hw : walkR base (some n) l with
        | none => rw [hw] at h; cases h
        | some r =>
          rw [hw] at h
          have := walk_len base l (some n) r hw
          simp only [Option.map_some, Option.some.injEq] at h
          subst h
          split <;> simp <;> omega
theorem okOpenJ {m : DM} (ok : m.Ok) : (openJ m).2.1.Ok ∧ ∀ j, (openJ m).2.2 = some j → j.base < 4611686018427387904 ∧ j.recs.length ≤ 16777216 := by
  unfold openJ
  cases hs : snapOf (m.B 1) with
  | none => exact ⟨ok, fun j h => by cases h⟩
  | some s =>
    simp only
    by_cases h2 : (scan (m.B 0)).2.2 = 2
    · rw [if_pos h2]; exact ⟨ok, fun j h => by cases h⟩
    · rw [if_neg h2]
      cases hw : walkR s.1 none (scan (m.B 0)).1 with
      | none => exact ⟨ok, fun j h => by cases h⟩
      | some rs =>
        have h3 := okCutJ ok 0 (scan (m.B 0)).2.1
        have h4 := okCutJ h3 2 0
        have hl : rs.length ≤ 16777216 := Nat.le_trans (walk_len _ _ _ _ hw) (Nat.le_trans (scan_few _ _ (Nat.le_refl _)) (ok.small (by omega)))
        unfold openCut
        simp only
        split
        · split
          · exact ⟨h4, fun j h => by injection h with h; subst h; exact ⟨snapOf_lt hs, hl⟩⟩
          · exact ⟨h4, fun j h => by cases h⟩
        · exact ⟨h3, fun j h => by cases h⟩
theorem okAppJ {m : DM} (ok : m.Ok) (j : JM) (b : List UInt8) : (appJ m j b).2.1.Ok ∧ (appJ m j b).2.2.base = j.base ∧ (appJ m j b).2.2.recs.length ≤ j.recs.length + 1 := by
  unfold appJ
  have h1 := ok.app 0 (frame (eight (j.last + 1) ++ b))
  have h2 := h1.syn 0
  split
  · exact ⟨ok, rfl, by simp⟩
  split
  · exact ⟨ok, rfl, by simp⟩
  dsimp only
  split
  · exact ⟨h1, rfl, by simp⟩
  by_cases h0 : (m.app 0 (frame (eight (j.last + 1) ++ b))).1 = 0
  · rw [if_pos h0]
    split
    · exact ⟨h2, rfl, by simp⟩
    · exact ⟨h2, rfl, by simp⟩
  · rw [if_neg h0]
    split
    · exact ⟨h1, rfl, by simp⟩
    · exact ⟨h1, rfl, by simp⟩
theorem okSnapJ {m : DM} (ok : m.Ok) (j : JM) (b : List UInt8) : (snapJ m j b).2.1.Ok ∧ (snapJ m j b).2.2.last = j.last ∧ (snapJ m j b).2.2.recs.length ≤ j.recs.length := by
  unfold snapJ
  have h1 := okCutJ ok 2 0
  have h2 := h1.app 2 (frame (eight j.last ++ b))
  have h3 := h2.syn 2
  have h4 := h3.mov 2 1
  have h5 := h4.cut 0 0
  split
  · exact ⟨ok, rfl, Nat.le_refl _⟩
  split
  · exact ⟨ok, rfl, Nat.le_refl _⟩
  dsimp only
  split
  · exact ⟨h1, rfl, Nat.le_refl _⟩
  split
  · exact ⟨h2, rfl, Nat.le_refl _⟩
  split
  · exact ⟨h2, rfl, Nat.le_refl _⟩
  split
  · exact ⟨h3, rfl, Nat.le_refl _⟩
  split
  · exact ⟨h4, rfl, Nat.le_refl _⟩
  split
  · exact ⟨h5, rfl, Nat.le_refl _⟩
  · exact ⟨h5, by simp [JM.last], by simp⟩

/-- what an operation makes of a disk and a journal -/
def jstep (s : DM × Option JM) (x : JOp) : DM × Option JM :=
  if x.Do = 2 then (s.1.setf x.N, s.2)
  else
    let m := if x.Do = 3 then s.1.crash (x.K 0) (x.K 1) (x.K 2) (x.K 3) else s.1
    match s.2 with
    | none => ((openJ m).2.1, (openJ m).2.2)
    | some j => if 3 ≤ x.Do ∨ x.Do < 0 then ((openJ m).2.1, (openJ m).2.2)
      else if x.Do = 0 then ((appJ m j (bl x.Bs)).2.1, some (appJ m j (bl x.Bs)).2.2) else ((snapJ m j (bl x.Bs)).2.1, some (snapJ m j (bl x.Bs)).2.2)
structure JOk (k : Nat) (s : DM × Option JM) : Prop where
  ok : s.1.Ok
  bnd : ∀ j, s.2 = some j → j.last ≤ 4611686018427387904 + 16777216 + k ∧ j.recs.length ≤ 16777216 + k
theorem jok_open {m : DM} (ok : m.Ok) (k : Nat) : JOk k ((openJ m).2.1, (openJ m).2.2) := by
  have h := okOpenJ ok
  refine ⟨h.1, fun j hj => ?_⟩
  have := h.2 j hj
  unfold JM.last
  omega
theorem JOk.step {k : Nat} {s : DM × Option JM} {x : JOp} (h : JOk k s) (hx : x.Ok) : JOk (k + 1) (jstep s x) := by
  obtain ⟨m, oj⟩ := s
  obtain ⟨ok, hb⟩ := h
  simp only at ok hb
  unfold jstep
  simp only
  by_cases e2 : x.Do = 2
  · rw [if_pos e2]
    exact ⟨ok.setf _ hx.n, fun j hj => by have := hb j hj; omega⟩
  · rw [if_neg e2]
    have ok' : (if x.Do = 3 then m.crash (x.K 0) (x.K 1) (x.K 2) (x.K 3) else m).Ok := by split; exact ok.crash _ _ _ _; exact ok
    generalize (if x.Do = 3 then m.crash (x.K 0) (x.K 1) (x.K 2) (x.K 3) else m) = m' at *
    cases oj with
    | none => exact jok_open ok' _
    | some j =>
      have hj := hb j rfl
      simp only
      split
      · exact jok_open ok' _
      split
      · obtain ⟨a1, a2, a3⟩ := okAppJ ok' j (bl x.Bs)
        refine ⟨a1, fun i hi => ?_⟩
        injection hi with hi
        subst hi
        unfold JM.last at *
        omega
      · obtain ⟨a1, a2, a3⟩ := okSnapJ ok' j (bl x.Bs)
        refine ⟨a1, fun i hi => ?_⟩
        injection hi with hi
        subst hi
        omega
/-- behind k operations -/
def jrun (s : DM × Option JM) (ops : Nat → JOp) : Nat → DM × Option JM
  | 0 => s
  | k + 1 => jstep (jrun s ops k) (ops k)
theorem JOk.run {s : DM × Option JM} {ops : Nat → JOp} (h : JOk 0 s) (hx : ∀ i, (ops i).Ok) : ∀ k, JOk k (jrun s ops k)
  | 0 => h
  | k + 1 => (h.run hx k).step (hx k)
end Go.Proofs.Ytidofjjghbhaaaa
