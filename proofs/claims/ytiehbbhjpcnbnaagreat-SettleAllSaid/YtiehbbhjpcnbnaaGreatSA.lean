/- A guard and a book beside each other, as plain data and in memory: what Try and Cycle make of them. -/
import Derived.Test.YtiehbbhjpcnbnaaGreatMAT
import Derived.Test.YtiehbbhjpcnbnaaGreatMBB
import Derived.Test.YtiehbbhjpcnbnaaGreatMBC
namespace Go.Proofs.YtiehbbhjpcnbnaaGreat
open Go.RowKit
set_option linter.unusedVariables false

/-- an instruction's postings -/
def legs (d : Dd.Dl) : List Pst := [⟨d.a, d.sc, -d.s⟩, ⟨d.b, d.sc, d.s⟩, ⟨d.b, d.bc, -d.t⟩, ⟨d.a, d.bc, d.t⟩]
/-- a guard and a book -/
structure ST where
  g : GM
  b : Dd.Bk
def tryS (s : ST) (id : Int) : Int × ST :=
  if (s.b.deal id).2 = false then (5, s)
  else if s.b.state id ≠ 2 then (7, s)
  else if (s.g.book (legs (s.b.deal id).1)).1 ≠ 0 then ((s.g.book (legs (s.b.deal id).1)).1, ⟨(s.g.book (legs (s.b.deal id).1)).2, s.b⟩)
  else ((s.b.set id).1, ⟨(s.g.book (legs (s.b.deal id).1)).2, (s.b.set id).2⟩)
/-- a pass over Ids -/
def passL : ST → List Int → List Int × ST
  | s, [] => ([], s)
  | s, id :: r => if (tryS s id).1 = 0 then (id :: (passL (tryS s id).2 r).1, (passL (tryS s id).2 r).2) else passL (tryS s id).2 r
def passS (s : ST) : List Int × ST := passL s (s.b.all 2)
def cyc : Nat → ST → List Int × Int × ST
  | 0, s => ([], 0, s)
  | n + 1, s => if (passS s).1 = [] then ([], 1, (passS s).2) else ((passS s).1 ++ (cyc n (passS s).2).1, (cyc n (passS s).2).2.1 + 1, (cyc n (passS s).2).2.2)
/-- how many are matched -/
def ST.many (s : ST) : Nat := (s.b.all 2).length
def cycS (s : ST) : List Int × Int × ST := cyc (s.many + 1) s

/-- what both keep to -/
structure ST.Ok (s : ST) : Prop where
  g : s.g.Ok
  b : s.b.Ok
  nm : s.b.mem = s.g.l.nm
  nc : s.b.cur = s.g.l.nc

theorem after_self (g : GM) : g.after g.l = g := rfl
theorem book_err {g : GM} (hg : g.l.Good) {ps : List Pst} (h : (g.book ps).1 ≠ 0) : (g.book ps).2 = g := by
  unfold GM.book at h ⊢
  split
  · rfl
  · rename_i hx
    rw [if_neg hx] at h
    show g.after _ = g
    rw [(post_good hg ps).2.2 h, after_self]
theorem book_like {g : GM} (hg : g.l.Good) (ps : List Pst) : (g.book ps).2.l.Good ∧ g.l.like (g.book ps).2.l ∧ (g.book ps).2.cs = g.cs ∧ (g.book ps).2.L = g.L := by
  unfold GM.book
  split
  · exact ⟨hg, ⟨rfl, rfl⟩, rfl, rfl⟩
  · exact ⟨(post_good hg ps).1, (post_good hg ps).2.1, rfl, rfl⟩
theorem book_yes {g : GM} {ps : List Pst} (h : (g.book ps).1 = 0) : (g.l.post ps).1 = 0 ∧ (g.book ps).2 = g.after (g.l.post ps).2 := by
  unfold GM.book at h ⊢
  split at h
  · rename_i hx
    split at h
    · contradiction
    · simp at h
  · rename_i hx
    rw [if_neg hx]
    exact ⟨h, rfl⟩
theorem try_ok {s : ST} (h : s.Ok) (id : Int) : (tryS s id).2.Ok := by
  unfold tryS
  have hb := book_like h.g.good (legs (s.b.deal id).1)
  have hg : (s.g.book (legs (s.b.deal id).1)).2.Ok := ⟨hb.1, by rw [hb.2.2.1, h.g.nc, hb.2.1.2], by rw [hb.2.2.1]; exact h.g.chk⟩
  split
  · exact h
  split
  · exact h
  split
  · exact ⟨hg, h.b, by rw [h.nm, ← hb.2.1.1], by rw [h.nc, ← hb.2.1.2]⟩
  · have hm : (s.b.set id).2.mem = s.b.mem ∧ (s.b.set id).2.cur = s.b.cur := by
      unfold Dd.Bk.set; split
      · exact ⟨rfl, rfl⟩
      · dsimp only; split <;> exact ⟨rfl, rfl⟩
    exact ⟨hg, Dd.set_ok h.b id, by show (s.b.set id).2.mem = _; rw [hm.1, h.nm, ← hb.2.1.1], by show (s.b.set id).2.cur = _; rw [hm.2, h.nc, ← hb.2.1.2]⟩
theorem try_err {s : ST} (h : s.Ok) {id : Int} (he : (tryS s id).1 ≠ 0) : (tryS s id).2 = s := by
  unfold tryS at he ⊢
  split
  · rfl
  rename_i h1
  rw [if_neg h1] at he
  split
  · rfl
  rename_i h2
  rw [if_neg h2] at he
  split
  · rename_i h3
    rw [book_err h.g.good h3]
  rename_i h3
  rw [if_neg h3] at he
  exfalso
  apply he
  show (s.b.set id).1 = 0
  unfold Dd.Bk.set
  unfold Dd.Bk.state at h2
  unfold Dd.Bk.deal at h1
  rcases ha : Dd.atL s.b.l id with _ | i
  · rw [ha] at h1; simp at h1
  · rw [ha] at h2
    simp only [ne_eq, Decidable.not_not] at h2
    dsimp only
    rw [if_neg (by simpa using h2)]
end Go.Proofs.YtiehbbhjpcnbnaaGreat
