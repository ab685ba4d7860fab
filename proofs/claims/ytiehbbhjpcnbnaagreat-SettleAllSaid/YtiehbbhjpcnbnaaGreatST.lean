/- What members pay in for their instructions; a cycle that settles all: plainly. -/
import Derived.Test.YtiehbbhjpcnbnaaGreatSS
namespace Go.Proofs.YtiehbbhjpcnbnaaGreat
open Go.RowKit
set_option linter.unusedVariables false

def payG (D : Int → Dd.Dl) (g : GM) (ids : List Int) : GM := ids.foldl (fun g id => ((g.inn (D id).a (D id).sc (D id).s).2.inn (D id).b (D id).bc (D id).t).2) g
theorem payG_take {D : Int → Dd.Dl} {g : GM} {ids : List Int} {k : Nat} (h : k < ids.length) : payG D g (ids.take (k + 1)) = (((payG D g (ids.take k)).inn (D ids[k]).a (D ids[k]).sc (D ids[k]).s).2.inn (D ids[k]).b (D ids[k]).bc (D ids[k]).t).2 := by
  unfold payG; rw [List.take_succ_eq_append_getElem h, List.foldl_append]; rfl
/-- one instruction's pay-ins -/
theorem two_rich {g : GM} {N : Int} {d : Dd.Dl} (h : Rich g N) (hm : Dd.mayB d g.l.nm g.l.nc = true) (hs : d.s ≤ 1073741824) (ht : d.t ≤ 1073741824) (hN : N + 2147483648 ≤ 1000000000000) :
    (g.inn d.a d.sc d.s).1 = 0 ∧ ((g.inn d.a d.sc d.s).2.inn d.b d.bc d.t).1 = 0 ∧ Rich ((g.inn d.a d.sc d.s).2.inn d.b d.bc d.t).2 (N + 2147483648) ∧ (∀ m c, ((g.inn d.a d.sc d.s).2.inn d.b d.bc d.t).2.l.B m c = g.l.B m c + paid d m c) ∧ ((g.inn d.a d.sc d.s).2.inn d.b d.bc d.t).2.l.nm = g.l.nm ∧ ((g.inn d.a d.sc d.s).2.inn d.b d.bc d.t).2.l.nc = g.l.nc := by
  obtain ⟨_, _, ⟨a0, a1, b0, b1, hab⟩, ⟨s0, s1, c0, c1, hsc⟩, hs0, ht0⟩ := Dd.mayB_iff.1 hm
  obtain ⟨i, hi⟩ : ∃ i : Nat, d.a = i := ⟨d.a.toNat, by omega⟩
  obtain ⟨j, hj⟩ : ∃ j : Nat, d.b = j := ⟨d.b.toNat, by omega⟩
  obtain ⟨u, hu⟩ : ∃ u : Nat, d.sc = u := ⟨d.sc.toNat, by omega⟩
  obtain ⟨v, hv⟩ : ∃ v : Nat, d.bc = v := ⟨d.bc.toNat, by omega⟩
  have hij : i ≠ j := by omega
  unfold paid
  rw [hi, hj, hu, hv]
  rw [hi] at a1
  rw [hj] at b1
  rw [hu] at s1
  rw [hv] at c1
  obtain ⟨e1, e2, e3, e4, e5⟩ := inn_rich (m := i) (c := u) h (by omega) (by omega) hs0 hs (by omega)
  obtain ⟨f1, f2, f3, f4, f5⟩ := inn_rich (m := j) (c := v) e2 (by rw [e4]; omega) (by rw [e5]; omega) ht0 ht (by omega)
  refine ⟨e1, f1, f2.mono (by omega), fun m c => ?_, f4.trans e4, f5.trans e5⟩
  rw [f3, e3]
  simp only [upd2_at]
  have n1 : ((m : Int) = (i : Int)) = (m = i) := propext (by omega)
  have n2 : ((m : Int) = (j : Int)) = (m = j) := propext (by omega)
  have n3 : ((c : Int) = (u : Int)) = (c = u) := propext (by omega)
  have n4 : ((c : Int) = (v : Int)) = (c = v) := propext (by omega)
  simp only [n1, n2, n3, n4]
  have hji : ¬ j = i := fun e => hij e.symm
  by_cases m1 : m = i
  · subst m1
    have m2 : ¬ m = j := hij
    by_cases c1 : c = u
    · subst c1
      simp only [m2, false_and, and_self, if_true, if_false]
      omega
    · simp only [m2, c1, false_and, and_false, if_false]
      omega
  · by_cases m2 : m = j
    · subst m2
      by_cases c2 : c = v
      · subst c2
        simp only [m1, false_and, and_self, if_true, if_false]
        omega
      · simp only [m1, c2, false_and, and_false, if_false]
        omega
    · simp only [m1, m2, false_and, if_false]
      omega
theorem pay_rich {g : GM} {D : Int → Dd.Dl} {ids : List Int} (h : Rich g 0) (hD : ∀ id ∈ ids, Dd.mayB (D id) g.l.nm g.l.nc = true ∧ (D id).s ≤ 1073741824 ∧ (D id).t ≤ 1073741824) (hl : ids.length ≤ 200) : ∀ k, k ≤ ids.length → Rich (payG D g (ids.take k)) (k * 2147483648) ∧ (∀ m c, (payG D g (ids.take k)).l.B m c = g.l.B m c + need D (ids.take k) m c) ∧ (payG D g (ids.take k)).l.nm = g.l.nm ∧ (payG D g (ids.take k)).l.nc = g.l.nc
  | 0, _ => ⟨by simpa [payG] using h, fun m c => by simp [payG, need], rfl, rfl⟩
  | k + 1, hk => by
    obtain ⟨h1, h2, h3, h4⟩ := pay_rich h hD hl k (by omega)
    have hk' : k < ids.length := by omega
    obtain ⟨d1, d2, d3⟩ := hD _ (List.getElem_mem hk')
    obtain ⟨_, _, e3, e4, e5, e6⟩ := two_rich h1 (by rw [h3, h4]; exact d1) d2 d3 (by omega)
    rw [payG_take hk']
    refine ⟨e3.mono (by push_cast; omega), fun m c => ?_, e5.trans h3, e6.trans h4⟩
    rw [e4, h2, List.take_succ_eq_append_getElem hk', need_app]
    simp only [need]
    omega
/-- each pay-in is taken -/
theorem pay_ok {g : GM} {D : Int → Dd.Dl} {ids : List Int} (h : Rich g 0) (hD : ∀ id ∈ ids, Dd.mayB (D id) g.l.nm g.l.nc = true ∧ (D id).s ≤ 1073741824 ∧ (D id).t ≤ 1073741824) (hl : ids.length ≤ 200) {k : Nat} (hk : k < ids.length) : ((payG D g (ids.take k)).inn (D ids[k]).a (D ids[k]).sc (D ids[k]).s).1 = 0 ∧ (((payG D g (ids.take k)).inn (D ids[k]).a (D ids[k]).sc (D ids[k]).s).2.inn (D ids[k]).b (D ids[k]).bc (D ids[k]).t).1 = 0 := by
  obtain ⟨h1, h2, h3, h4⟩ := pay_rich h hD hl k (by omega)
  obtain ⟨d1, d2, d3⟩ := hD _ (List.getElem_mem hk)
  obtain ⟨e1, e2, _⟩ := two_rich h1 (by rw [h3, h4]; exact d1) d2 d3 (by omega)
  exact ⟨e1, e2⟩
theorem sub_P {P : Dd.Dl → Prop} {b : Dd.Bk} {d : Dd.Dl} (h : ∀ e ∈ b.l, P e.d) (hd : P d) : ∀ e ∈ (b.sub d).2.l, P e.d := by
  unfold Dd.Bk.sub
  split
  · exact h
  · split
    · split
      · exact h
      · intro e he
        rcases List.mem_append.1 he with he | he
        · exact h e he
        · rw [List.mem_singleton.1 he]; exact hd
    · rename_i i hi
      obtain ⟨hl, _⟩ := Dd.atL_some hi
      dsimp only
      split
      · exact h
      · split
        · exact h
        · intro e he
          rcases List.mem_or_eq_of_mem_set he with he | he
          · exact h e he
          · rw [he]
            dsimp only
            rw [Dd.getD_is hl]
            exact h _ (List.getElem_mem hl)
theorem subS_P {P : Dd.Dl → Prop} (hm : ∀ d, P d → P d.mir) : ∀ (ds : List Dd.Dl) {b : Dd.Bk}, (∀ e ∈ b.l, P e.d) → (∀ d ∈ ds, P d) → ∀ e ∈ (subS b ds).l, P e.d
  | [], b, h, _ => h
  | d :: r, b, h, hd => subS_P hm r (sub_P (sub_P h (hd d (by simp))) (hm d (hd d (by simp)))) fun x hx => hd x (by simp [hx])
/-- a cycle of which the first pass settles all -/
theorem cyc_all {s : ST} (h : s.Ok) (hp : (passS s).1 = s.b.all 2) : (cycS s).1 = s.b.all 2 ∧ (cycS s).2.1 = min ((s.b.all 2).length : Int) 1 + 1 := by
  rw [cyc_step h]
  by_cases he : (passS s).1 = []
  · rw [if_pos he]
    rw [← hp, he]
    exact ⟨rfl, rfl⟩
  · rw [if_neg he]
    have h2 := pass_cnt h
    rw [hp] at h2
    have hm : s.many = (s.b.all 2).length := rfl
    have h0 : (passS s).2.many = 0 := by omega
    have hnil : (passS s).2.b.all 2 = [] := List.eq_nil_of_length_eq_zero h0
    have hp2 : passS (passS s).2 = ([], (passS s).2) := by
      show passL (passS s).2 ((passS s).2.b.all 2) = _
      rw [hnil]; rfl
    have hc : cycS (passS s).2 = ([], 1, (passS s).2) := by
      rw [cyc_step (pass_ok h), hp2]; exact if_pos rfl
    rw [hc]
    have hl : 0 < (s.b.all 2).length := by
      rw [← hp]
      cases e : (passS s).1 with
      | nil => exact absurd e he
      | cons _ _ => simp
    refine ⟨by rw [List.append_nil, hp], ?_⟩
    show (1 : Int) + 1 = _
    omega
end Go.Proofs.YtiehbbhjpcnbnaaGreat
