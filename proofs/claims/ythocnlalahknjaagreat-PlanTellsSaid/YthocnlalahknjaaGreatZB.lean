/- What both programs answer to a matrix and deadlines, and to dues and payments: one list, one error. -/
import Derived.Test.YthocnlalahknjaaGreatZA
namespace Go.Proofs.YthocnlalahknjaaGreat.Dd
open Go.RowKit Go.Maps
set_option linter.unusedVariables false
/-- an ending that gives a list of dues and an error -/
def Tell (w w' : World) (e : Ending) (X : List Du) (E : Int) : Prop := ∃ u, e = .returned (.tuple #[u, .int .i64 E]) ∧ USeq w' u X ∧ Below w.heap.size w w'
theorem useq_nil (w : World) : USeq w (.slice none 0 0) [] := ⟨none, 0, rfl, Nat.le_refl _, .inl rfl⟩
theorem sch_both (pn : Option Addr) (M cn : Nat) (rows : List (List Int)) (pz : Option Addr) (n cz : Nat) (zs : List Int) (w : World) (hN : NSeq w (.slice pn M cn) rows) (hM : rows.length = M) (hM0 : M ≤ 4611686018427387904)
    (hr : ∀ r ∈ rows, r.length ≤ 4611686018427387904) (hZ : Seq64 w pz n zs) :
    ∃ X E, X.length ≤ 4096 ∧ Calls Tryz.prog 13 #[.slice pn M cn, .slice pz n cz] w (fun e w' => Tell w w' e X E) ∧
      ∀ w2, Below w.heap.size w w2 → Calls Tryz.prog 14 #[.slice pn M cn, .slice pz n cz] w2 (fun e w' => Tell w2 w' e X E) := by
  have c1 := schedule_any (.slice pn M cn) rows pz n cz zs w hN hZ (by omega) hr
  have c2 : ∀ w2, Below w.heap.size w w2 → Calls Tryz.prog 14 #[.slice pn M cn, .slice pz n cz] w2 fun e w' => Below w2.heap.size w2 w' ∧ RSch rows zs w' e := fun w2 hb =>
    rsch_any pn M cn rows pz n cz zs w2 (hN.kept hb) hM hM0 (hZ.kept hb)
  by_cases k1 : mayD zs = true
  · by_cases k2 : manyN rows = true
    · refine ⟨[], 4, by simp, c1.mono ?_, fun w2 hb => (c2 w2 hb).mono ?_⟩
      · rintro e w' ⟨hb, ⟨a, _⟩ | ⟨_, _, rfl⟩ | ⟨_, a, _⟩ | ⟨_, a, _⟩⟩
        · rw [k1] at a; cases a
        · exact ⟨_, rfl, useq_nil _, hb⟩
        · rw [k2] at a; cases a
        · rw [k2] at a; cases a
      · rintro e w' ⟨hb, ⟨a, _⟩ | ⟨_, _, rfl⟩ | ⟨_, a, _⟩ | ⟨_, a, _⟩⟩
        · rw [k1] at a; cases a
        · exact ⟨_, rfl, useq_nil _, hb⟩
        · rw [k2] at a; cases a
        · rw [k2] at a; cases a
    · have k2 : manyN rows = false := by simpa using k2
      by_cases k3 : overN rows = true
      · refine ⟨[], 3, by simp, c1.mono ?_, fun w2 hb => (c2 w2 hb).mono ?_⟩
        · rintro e w' ⟨hb, ⟨a, _⟩ | ⟨_, a, _⟩ | ⟨_, _, _, rfl⟩ | ⟨_, _, a, _⟩⟩
          · rw [k1] at a; cases a
          · rw [k2] at a; cases a
          · exact ⟨_, rfl, useq_nil _, hb⟩
          · rw [k3] at a; cases a
        · rintro e w' ⟨hb, ⟨a, _⟩ | ⟨_, a, _⟩ | ⟨_, _, _, rfl⟩ | ⟨_, _, a, _⟩⟩
          · rw [k1] at a; cases a
          · rw [k2] at a; cases a
          · exact ⟨_, rfl, useq_nil _, hb⟩
          · rw [k3] at a; cases a
      · have k3 : overN rows = false := by simpa using k3
        have k4 := k2
        unfold manyN at k4
        simp only [Bool.or_eq_false_iff, decide_eq_false_iff_not, List.any_eq_false, decide_eq_true_eq] at k4
        have hle := schO_le zs rows (len8 fun r hr => by have := k4.2 r hr; omega) (by omega) zs.length
        have h16 := (mayD_rise k1).2.1
        refine ⟨schO zs rows zs.length, 0, by omega, c1.mono ?_, fun w2 hb => (c2 w2 hb).mono ?_⟩
        · rintro e w' ⟨hb, ⟨a, _⟩ | ⟨_, a, _⟩ | ⟨_, _, a, _⟩ | ⟨_, _, _, u, L, rfl, hp, ho, hu⟩⟩
          · rw [k1] at a; cases a
          · rw [k2] at a; cases a
          · rw [k3] at a; cases a
          · rw [sch_same k1 hp ho] at hu
            exact ⟨u, rfl, hu, hb⟩
        · rintro e w' ⟨hb, ⟨a, _⟩ | ⟨_, a, _⟩ | ⟨_, _, a, _⟩ | ⟨_, _, _, u, rfl, hu⟩⟩
          · rw [k1] at a; cases a
          · rw [k2] at a; cases a
          · rw [k3] at a; cases a
          · exact ⟨u, rfl, hu, hb⟩
  · have k1 : mayD zs = false := by simpa using k1
    refine ⟨[], 1, by simp, c1.mono ?_, fun w2 hb => (c2 w2 hb).mono ?_⟩
    · rintro e w' ⟨hb, ⟨_, rfl⟩ | ⟨a, _⟩ | ⟨a, _⟩ | ⟨a, _⟩⟩
      · exact ⟨_, rfl, useq_nil _, hb⟩
      all_goals (rw [k1] at a; cases a)
    · rintro e w' ⟨hb, ⟨_, rfl⟩ | ⟨a, _⟩ | ⟨a, _⟩ | ⟨a, _⟩⟩
      · exact ⟨_, rfl, useq_nil _, hb⟩
      all_goals (rw [k1] at a; cases a)
theorem beh_both (pd : Option Addr) (n cd : Nat) (now : Int) (l : List Du) (pp : Option Addr) (P cp : Nat) (rows : List (List Int)) (w : World) (hD : USeq w (.slice pd n cd) l) (hn : n = l.length) (hn2 : n ≤ 60) (hin : ∀ d ∈ l, DuIn d)
    (hm30 : ∀ d ∈ l, d.m < 30) (hc30 : ∀ d ∈ l, d.c < 30) (hN : NSeq w (.slice pp P cp) rows) (hP : rows.length = P) (hP0 : P ≤ 4611686018427387904) (hr : ∀ r ∈ rows, r.length ≤ 4611686018427387904) :
    ∃ X E, X.length ≤ 4096 ∧ Calls Tryz.prog 15 #[.slice pd n cd, .slice pp P cp, .int .i64 now] w (fun e w' => Tell w w' e X E) ∧
      ∀ w2, Below w.heap.size w w2 → ∀ v, USeq w2 v l → Calls Tryz.prog 16 #[v, .slice pp P cp, .int .i64 now] w2 (fun e w' => Tell w2 w' e X E) := by
  have c1 := behind_any (.slice pd n cd) (.slice pp P cp) l rows now w hD (by omega) hin hN (by omega)
  have c2 : ∀ w2, Below w.heap.size w w2 → ∀ v, USeq w2 v l → Calls Tryz.prog 16 #[v, .slice pp P cp, .int .i64 now] w2 fun e w' => Below w2.heap.size w2 w' ∧ RBeh l now rows w' e := fun w2 hb v h2 => by
    obtain ⟨pd2, cd2, rfl, _⟩ := id h2
    exact rbeh_any pd2 l.length cd2 now l pp P cp rows w2 h2 rfl (by omega) hin hm30 hc30 (hN.kept hb) hP hP0 hr
  by_cases k1 : l.any Du.wrong = true
  · refine ⟨[], 1, by simp, c1.mono ?_, fun w2 hb v h2 => (c2 w2 hb v h2).mono ?_⟩
    · rintro e w' ⟨hb, ⟨a, _⟩ | ⟨_, _, rfl⟩ | ⟨_, a, _⟩⟩
      · omega
      · exact ⟨_, rfl, useq_nil _, hb⟩
      · rw [k1] at a; cases a
    · rintro e w' ⟨hb, ⟨_, rfl⟩ | ⟨a, _⟩ | ⟨a, _⟩⟩
      · exact ⟨_, rfl, useq_nil _, hb⟩
      all_goals (rw [k1] at a; cases a)
  · have k1 : l.any Du.wrong = false := by simpa using k1
    by_cases k2 : ∀ m c : Nat, m < (mostL l now l.length).toNat + 1 → c < (wideL l now l.length).toNat + 1 → Amt (sumD l now m c l.length)
    · have hmb := most_bound now hm30 l.length
      have hwb := wide_bound now hc30 l.length
      have hle := behM_le l now rows ((wideL l now l.length).toNat + 1) (by omega) ((mostL l now l.length).toNat + 1)
      refine ⟨_, 0, Nat.le_trans hle (by omega), c1.mono ?_, fun w2 hb v h2 => (c2 w2 hb v h2).mono ?_⟩
      · rintro e w' ⟨hb, ⟨a, _⟩ | ⟨_, a, _⟩ | ⟨_, _, L, hp, ho, h3⟩⟩
        · omega
        · rw [k1] at a; cases a
        · rcases beh_same (rows := rows) k1 hp ho with ⟨_, m, c, h1, h2, hbad⟩ | ⟨_, hsome⟩
          · exact absurd (k2 m c h1 h2) hbad
          · rcases h3 with ⟨out, u, ho2, rfl, hu⟩ | ⟨ho2, _⟩
            · rw [hsome] at ho2
              cases ho2
              exact ⟨u, rfl, hu.seq, hb⟩
            · rw [hsome] at ho2; cases ho2
      · rintro e w' ⟨hb, ⟨a, _⟩ | ⟨_, ⟨m, c, h1, h2, hbad⟩, _⟩ | ⟨_, _, u, rfl, hu⟩⟩
        · rw [k1] at a; cases a
        · exact absurd (k2 m c h1 h2) hbad
        · exact ⟨u, rfl, hu, hb⟩
    · refine ⟨[], 3, by simp, c1.mono ?_, fun w2 hb v h2 => (c2 w2 hb v h2).mono ?_⟩
      · rintro e w' ⟨hb, ⟨a, _⟩ | ⟨_, a, _⟩ | ⟨_, _, L, hp, ho, h3⟩⟩
        · omega
        · rw [k1] at a; cases a
        · rcases beh_same (rows := rows) k1 hp ho with ⟨hnone, _⟩ | ⟨hall, _⟩
          · rcases h3 with ⟨out, u, ho2, _⟩ | ⟨_, rfl⟩
            · rw [hnone] at ho2; cases ho2
            · exact ⟨_, rfl, useq_nil _, hb⟩
          · exact absurd hall k2
      · rintro e w' ⟨hb, ⟨a, _⟩ | ⟨_, _, rfl⟩ | ⟨_, a, _⟩⟩
        · rw [k1] at a; cases a
        · exact ⟨_, rfl, useq_nil _, hb⟩
        · exact absurd a k2
end Go.Proofs.YthocnlalahknjaaGreat.Dd
