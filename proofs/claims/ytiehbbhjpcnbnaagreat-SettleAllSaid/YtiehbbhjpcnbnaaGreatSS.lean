/- An instruction whose legs are there is booked; all of them are, one after the other: plainly. -/
import Derived.Test.YtiehbbhjpcnbnaaGreatSR
namespace Go.Proofs.YtiehbbhjpcnbnaaGreat
open Go.RowKit
set_option linter.unusedVariables false

theorem paid_bd {d : Dd.Dl} {nm nc : Int} (hm : Dd.mayB d nm nc = true) (hs : d.s ≤ 1073741824) (ht : d.t ≤ 1073741824) (m c : Nat) : 0 ≤ paid d m c ∧ 0 ≤ got d m c ∧ got d m c ≤ 1073741824 ∧ paid d m c ≤ 1073741824 := by
  obtain ⟨_, _, ⟨a0, a1, b0, b1, hab⟩, ⟨s0, s1, c0, c1, hsc⟩, hs0, ht0⟩ := Dd.mayB_iff.1 hm
  unfold paid got
  split <;> split <;> split <;> split <;> omega
theorem book_rich {g : GM} {N : Int} {d : Dd.Dl} (h : Rich g N) (hm : Dd.mayB d g.l.nm g.l.nc = true) (hs : d.s ≤ 1073741824) (ht : d.t ≤ 1073741824) (hN : N + 1073741824 ≤ 1000000000000) (hp : ∀ m c, paid d m c ≤ g.l.B m c) :
    (g.book (legs d)).1 = 0 ∧ Rich (g.book (legs d)).2 (N + 1073741824) ∧ (∀ m c, (g.book (legs d)).2.l.B m c = g.l.B m c - paid d m c + got d m c) := by
  obtain ⟨C, hC, hCe⟩ := goP_rich h.b hm hs ht hN hp
  have hpost : g.l.post (legs d) = (0, ⟨g.l.nm, g.l.nc, C, g.l.N⟩) := by
    unfold LM.post
    rw [if_pos (legs_known hm), if_pos (legs_even g.l d), hC]
  have hkn : knownC g.l.nc (legs d) = true := known_yes fun q hq => by
    have := Dd.mayB_iff.1 hm
    unfold legs at hq
    simp only [List.mem_cons, List.not_mem_nil, or_false] at hq
    rcases hq with rfl | rfl | rfl | rfl <;> dsimp only <;> omega
  have hends : g.ends (legs d) = false := by
    unfold GM.ends
    refine any_range_no fun k hk => ?_
    unfold GM.bad
    by_cases hpart : (k : Int) = d.a ∨ (k : Int) = d.b
    · have hfl : g.flagged (k : Int) = false := by rw [flagged_nat hk]; exact h.fl k hk
      have hf0 : g.fails (k : Int) (legs d) = 0 := by
        obtain ⟨_, _, ⟨a0, a1, b0, b1, hab⟩, ⟨s0, s1, c0, c1, hsc⟩, hs0, ht0⟩ := Dd.mayB_iff.1 hm
        obtain ⟨u, hu⟩ : ∃ u : Nat, d.sc = u := ⟨d.sc.toNat, by omega⟩
        obtain ⟨v, hv⟩ : ∃ v : Nat, d.bc = v := ⟨d.bc.toNat, by omega⟩
        have huv : u ≠ v := by omega
        have hB := h.b k
        have p1 := hp k u
        have p2 := hp k v
        unfold paid at p1 p2
        rw [hu, hv] at p1 p2
        rcases hpart with ha | hb
        · have q1 : d.s ≤ g.l.B k u := by rw [if_pos ⟨ha, rfl⟩, if_neg (by omega)] at p1; omega
          have g1 := hB u
          have g2 := hB v
          have ev : ∀ X, upd (g.l.B k) u X v = g.l.B k v := fun X => upd_other _ _ (Ne.symm huv)
          refine rich_fails h (by omega) hk (d := upd (upd (g.l.B k) u (g.l.B k u + -d.s)) v (g.l.B k v + d.t)) hkn ?_ fun c => ?_
          · unfold legs
            rw [hu, hv]
            simp only [goI, Int.toNat_natCast]
            rw [if_pos ha.symm, if_pos (by unfold In64; omega), if_neg (by omega), if_neg (by omega), if_pos ha.symm]
            simp only [ev]
            rw [if_pos (by unfold In64; omega)]
          · have := hB c
            unfold upd
            split
            · omega
            · split
              · rename_i e1 e2; subst e2; omega
              · omega
        · have q2 : d.t ≤ g.l.B k v := by rw [if_neg (by omega), if_pos ⟨hb, rfl⟩] at p2; omega
          have g1 := hB u
          have g2 := hB v
          have ev : ∀ X, upd (g.l.B k) u X v = g.l.B k v := fun X => upd_other _ _ (Ne.symm huv)
          refine rich_fails h (by omega) hk (d := upd (upd (g.l.B k) u (g.l.B k u + d.s)) v (g.l.B k v + -d.t)) hkn ?_ fun c => ?_
          · unfold legs
            rw [hu, hv]
            simp only [goI, Int.toNat_natCast]
            rw [if_neg (by omega), if_pos hb.symm, if_pos (by unfold In64; omega), if_pos hb.symm]
            simp only [ev]
            rw [if_pos (by unfold In64; omega), if_neg (by omega)]
          · have := hB c
            unfold upd
            split
            · omega
            · split
              · rename_i e1 e2; subst e2; omega
              · omega
      rw [hfl, hf0]
      simp
    · have : partB k (legs d) = false := by
        unfold partB legs
        have n1 : ¬ d.a = (k : Int) := fun e => hpart (.inl e.symm)
        have n2 : ¬ d.b = (k : Int) := fun e => hpart (.inr e.symm)
        simp [n1, n2]
      rw [this]; rfl
  have hbk : g.book (legs d) = (0, g.after ⟨g.l.nm, g.l.nc, C, g.l.N⟩) := by
    unfold GM.book
    rw [if_neg (by rw [hends]; decide), hpost]
  have hl := book_like h.ok.good (legs d)
  rw [hbk] at hl ⊢
  refine ⟨rfl, ⟨⟨hl.1, h.ok.nc, h.ok.chk⟩, fun m c => ?_, h.fl, h.sh, h.all⟩, hCe⟩
  show 0 ≤ C m c ∧ C m c ≤ N + 1073741824
  rw [hCe]
  have := h.b m c
  have := hp m c
  have := paid_bd hm hs ht m c
  omega

/-- what some take of a member and a currency -/
def need (D : Int → Dd.Dl) : List Int → Nat → Nat → Int
  | [], _, _ => 0
  | id :: r, m, c => paid (D id) m c + need D r m c
theorem need_app (D : Int → Dd.Dl) (a b : List Int) (m c : Nat) : need D (a ++ b) m c = need D a m c + need D b m c := by
  induction a with
  | nil => simp [need]
  | cons x r ih => rw [List.cons_append, need, need, ih]; omega
theorem set_other {b : Dd.Bk} {id x : Int} (h : (b.set id).1 = 0) (hx : x ≠ id) : (b.set id).2.state x = b.state x := by
  obtain ⟨i, hi, he, ha, hs, e⟩ := set_yes h
  rw [e]
  unfold Dd.Bk.state
  dsimp only
  rw [Dd.atL_set _ _ _ _ (fun _ => rfl)]
  rcases hy : Dd.atL b.l x with _ | j
  · rfl
  · obtain ⟨hj, hjx⟩ := Dd.atL_some hy
    dsimp only
    rw [Dd.getD_is (by rw [List.length_set]; exact hj), Dd.getD_is hj, List.getElem_set]
    split
    · rename_i e; subst e; exact absurd (hjx.symm.trans he) hx
    · rfl
/-- what is matched can be settled, if its legs are booked -/
theorem set_can {b : Dd.Bk} {id : Int} (hk : (b.deal id).2 = true) (hs : b.state id = 2) : (b.set id).1 = 0 := by
  unfold Dd.Bk.deal at hk
  unfold Dd.Bk.state at hs
  unfold Dd.Bk.set
  rcases ha : Dd.atL b.l id with _ | i
  · rw [ha] at hk; simp at hk
  · rw [ha] at hs
    dsimp only at hs ⊢
    rw [if_neg (by simpa using hs)]
theorem passL_all : ∀ (ids : List Int) {s : ST} {N : Int} {D : Int → Dd.Dl}, s.Ok → Rich s.g N → N + ids.length * 1073741824 ≤ 1000000000000 → ids.Nodup → (∀ id ∈ ids, s.b.deal id = (D id, true) ∧ s.b.state id = 2 ∧ (D id).s ≤ 1073741824 ∧ (D id).t ≤ 1073741824) → (∀ m c, need D ids m c ≤ s.g.l.B m c) → (passL s ids).1 = ids
  | [], s, N, D, _, _, _, _, _, _ => rfl
  | id :: r, s, N, D, hok, hR, hN, hnd, hall, hneed => by
    obtain ⟨k1, k2, k3, k4⟩ := hall id (by simp)
    have kd : (s.b.deal id).1 = D id := by rw [k1]
    have kk : (s.b.deal id).2 = true := by rw [k1]
    have hm := (deal_may hok kk).1
    rw [kd, hok.nm, hok.nc] at hm
    have hcast : ((id :: r).length : Int) * 1073741824 = (r.length : Int) * 1073741824 + 1073741824 := by simp only [List.length_cons]; push_cast; rw [Int.add_mul]; simp
    have hrl : 0 ≤ (r.length : Int) * 1073741824 := by omega
    have hge : ∀ (l : List Int), (∀ y ∈ l, (D y).s ≤ 1073741824 ∧ (D y).t ≤ 1073741824 ∧ Dd.mayB (D y) s.g.l.nm s.g.l.nc = true) → ∀ m c, 0 ≤ need D l m c := fun l => by
      induction l with
      | nil => intro _ m c; exact Int.le_refl _
      | cons y l ih =>
        intro hy m c
        have h1 := hy y (by simp)
        have h2 := paid_bd h1.2.2 h1.1 h1.2.1 m c
        have h3 := ih (fun z hz => hy z (by simp [hz])) m c
        rw [need]; omega
    have hmr : ∀ y ∈ r, (D y).s ≤ 1073741824 ∧ (D y).t ≤ 1073741824 ∧ Dd.mayB (D y) s.g.l.nm s.g.l.nc = true := fun y hy => by
      obtain ⟨j1, j2, j3, j4⟩ := hall y (by simp [hy])
      have jm := (deal_may hok (by rw [j1])).1
      rw [j1, hok.nm, hok.nc] at jm
      exact ⟨j3, j4, jm⟩
    have hp : ∀ m c, paid (D id) m c ≤ s.g.l.B m c := fun m c => by
      have h1 := hneed m c
      rw [need] at h1
      have h2 := hge r hmr m c
      omega
    obtain ⟨b1, b2, b3⟩ := book_rich hR hm k3 k4 (by omega) hp
    have hset := set_can kk k2
    have ht : tryS s id = (0, ⟨(s.g.book (legs (D id))).2, (s.b.set id).2⟩) := by
      unfold tryS
      rw [if_neg (by rw [kk]; decide), if_neg (by simpa using k2), kd, if_neg (by simpa using b1), hset]
    unfold passL
    rw [ht, if_pos rfl]
    have hok2 : (tryS s id).2.Ok := try_ok hok id
    rw [ht] at hok2
    have hnd2 := List.nodup_cons.1 hnd
    have ih := passL_all r (s := ⟨(s.g.book (legs (D id))).2, (s.b.set id).2⟩) (N := N + 1073741824) (D := D) hok2 b2 (by omega) hnd2.2 (fun y hy => by
      obtain ⟨j1, j2, j3, j4⟩ := hall y (by simp [hy])
      have hne : y ≠ id := fun e => hnd2.1 (e ▸ hy)
      exact ⟨(set_deal y hset).trans j1, (set_other hset hne).trans j2, j3, j4⟩) (fun m c => by
      have h1 := hneed m c
      rw [need] at h1
      have h2 := paid_bd hm k3 k4 m c
      show need D r m c ≤ (s.g.book (legs (D id))).2.l.B m c
      rw [b3]; omega)
    rw [ih]
end Go.Proofs.YtiehbbhjpcnbnaaGreat
