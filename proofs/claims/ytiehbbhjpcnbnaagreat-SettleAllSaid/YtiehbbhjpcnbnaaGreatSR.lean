/- Where all that must be paid is there: every test is passed, and every instruction goes through: plainly. -/
import Derived.Test.YtiehbbhjpcnbnaaGreatSP
namespace Go.Proofs.YtiehbbhjpcnbnaaGreat
open Go.RowKit
set_option linter.unusedVariables false

theorem worth_bd {c : Cur} (ho : oobB c = false) {a : Int} (h0 : 0 ≤ a) (h1 : a ≤ 1000000000000) : 0 ≤ worthT c a ∧ worthT c a ≤ 20000000000000000 := by
  obtain ⟨r0, r1, u0, u1⟩ := oob_no ho
  have hp : partOf c a = 10000 - c.cut := by unfold partOf; rw [if_neg (by omega)]
  obtain ⟨b0, b1⟩ := part_bd c.rate (10000 - c.cut) r0 r1 (by omega) (by omega)
  unfold worthT muldiv
  simp only [Bool.false_eq_true, if_false]
  rw [hp]
  generalize c.rate * (10000 - c.cut) = X at *
  have h2 : 0 ≤ a * X := Int.mul_nonneg h0 b0
  have h3 : a * X ≤ a * 2000000000000 := Int.mul_le_mul_of_nonneg_left b1 h0
  omega
theorem net_rich {t : List Cur} {b : Nat → Int} (hb : ∀ i, 0 ≤ b i ∧ b i ≤ 1000000000000) : ∀ (n c : Nat) (s : Int), (∀ i, c ≤ i → i < c + n → oobB (cAt t i) = false) → 0 ≤ s → s + (n : Int) * 20000000000000000 ≤ 9000000000000000000 → (netF t b n c s).2 = 0 ∧ 0 ≤ (netF t b n c s).1
  | 0, c, s, _, hs, _ => ⟨rfl, hs⟩
  | n + 1, c, s, ho, hs, hN => by
    obtain ⟨w0, w1⟩ := worth_bd (ho c (by omega) (by omega)) (hb c).1 (hb c).2
    rw [netF, if_pos ⟨by unfold In64; omega, by unfold In64; omega⟩]
    exact net_rich hb n (c + 1) _ (fun i h1 h2 => ho i (by omega) (by omega)) (by omega) (by omega)
theorem short_rich {t : List Cur} {b : Nat → Int} (hb : ∀ i, 0 ≤ b i) : ∀ n c s, shortF t b n c s = (s, 0)
  | 0, c, s => rfl
  | n + 1, c, s => by rw [shortF, if_pos (hb c)]; exact short_rich hb n (c + 1) s
theorem both_rich {t : List Cur} {nc : Nat} {b : Nat → Int} (hnc : nc ≤ 8) (hb : ∀ i, 0 ≤ b i ∧ b i ≤ 1000000000000) (ho : ∀ i, i < nc → oobB (cAt t i) = false) : ∃ x, 0 ≤ x ∧ bothM t nc b = (x, 0, 0) := by
  obtain ⟨h1, h2⟩ := net_rich (t := t) hb nc 0 0 (fun i _ h => ho i (by omega)) (Int.le_refl _) (by omega)
  have h3 := short_rich (t := t) (fun i => (hb i).1) nc 0 0
  refine ⟨_, h2, ?_⟩
  unfold bothM
  rw [if_pos ⟨h1, by rw [h3]⟩, h3]
theorem failD_rich {t : List Cur} {nc : Nat} {L : Lim} {b : Nat → Int} (hnc : nc ≤ 8) (hb : ∀ i, 0 ≤ b i ∧ b i ≤ 1000000000000) (ho : ∀ i, i < nc → oobB (cAt t i) = false) (hs : ∀ c, 0 ≤ L.sh c) (ha : 0 ≤ L.all) : failD t nc L b = 0 := by
  obtain ⟨x, hx, e⟩ := both_rich hnc hb ho
  have hE : exB nc L b = false := by
    cases h : exB nc L b with
    | false => rfl
    | true =>
      obtain ⟨c, _, h2⟩ := exB_iff.1 h
      have := hs c
      have := (hb c).1
      omega
  unfold failD
  rw [e]
  dsimp only
  rw [if_pos rfl, hE]
  have e1 : decide (x < 0) = false := decide_eq_false (by omega)
  have e2 : decide (L.all < 0) = false := decide_eq_false (by omega)
  rw [e1, e2]
  rfl
/-- nobody lacks anything -/
structure Rich (g : GM) (N : Int) : Prop where
  ok : g.Ok
  b : ∀ m c, 0 ≤ g.l.B m c ∧ g.l.B m c ≤ N
  fl : ∀ k, k < g.l.nm → g.fl k = false
  sh : ∀ k c, 0 ≤ (g.L k).sh c
  all : ∀ k, 0 ≤ (g.L k).all
theorem sumM_le {f : Nat → Int} {N : Int} : ∀ (n : Nat), (∀ i, 0 ≤ f i ∧ f i ≤ N) → 0 ≤ sumM f n ∧ sumM f n ≤ (n : Int) * N
  | 0, _ => ⟨Int.le_refl _, by simp [sumM]⟩
  | n + 1, h => by
    have h1 := sumM_le n h
    have h2 := h n
    rw [sumM]
    have : ((n + 1 : Nat) : Int) * N = n * N + N := by push_cast; rw [Int.add_mul]; simp
    omega
theorem rich_new {n nc : Nat} {cs : List Cur} {ls : List LV} (h1 : 1 ≤ n ∧ n ≤ 16) (h2 : 1 ≤ nc ∧ nc ≤ 8) (hc : chkT cs = 0) (hl : cs.length = nc) (hL : limsOk ls n nc = true) : Rich (newGM (LM.new n nc) cs ls) 0 := by
  obtain ⟨g1, g2⟩ := new_ok (nm := n) (nc := nc) h1 h2
  have hg : (LM.new n nc).Good := ⟨g1, g2⟩
  have hOk : (newGM (LM.new n nc) cs ls).Ok := ⟨hg, hl, hc⟩
  unfold limsOk at hL
  simp only [Bool.and_eq_true, decide_eq_true_eq, List.all_eq_true] at hL
  have hsh : ∀ k c, 0 ≤ (LimM ls k).sh c := fun k c => by
    unfold LimM
    split
    · rename_i v hv
      have := hL.2 v (List.mem_of_getElem? hv)
      unfold okV at this
      simp only [Bool.and_eq_true, decide_eq_true_eq, Bool.not_eq_true', decide_eq_false_iff_not] at this
      unfold Lim.sh LV.lim
      dsimp only
      have hn := this.1.2
      unfold negB at hn
      rw [List.any_eq_false] at hn
      rw [List.getD_eq_getElem?_getD]
      rcases hx : v.xs[c]? with _ | z
      · exact Int.le_refl _
      · have := hn z (List.mem_of_getElem? hx)
        simpa using this
    · unfold Lim.sh; simp
  have hall : ∀ k, 0 ≤ (LimM ls k).all := fun k => by
    unfold LimM
    split
    · rename_i v hv
      have := hL.2 v (List.mem_of_getElem? hv)
      unfold okV at this
      simp only [Bool.and_eq_true, decide_eq_true_eq, Bool.not_eq_true', decide_eq_false_iff_not] at this
      have := this.2
      unfold LV.lim
      dsimp only
      omega
    · exact Int.le_refl _
  refine ⟨hOk, fun m c => ⟨Int.le_refl _, Int.le_refl _⟩, fun k hk => ?_, hsh, hall⟩
  have hf : (⟨LM.new n nc, cs, LimM ls, fun _ => false⟩ : GM).fails (k : Int) [] = 0 := by
    have hk' : k < (⟨LM.new n nc, cs, LimM ls, fun _ => false⟩ : GM).l.nm := hk
    rw [fails_nat hk', failF_nil, row_B hg hk']
    exact failD_rich (by have := h2.2; exact this) (fun i => ⟨Int.le_refl _, by show (0 : Int) ≤ 1000000000000; decide⟩) (hOk.oob) (hsh k) (hall k)
  show decide ((⟨LM.new n nc, cs, LimM ls, fun _ => false⟩ : GM).fails (k : Int) [] ≠ 0) = false
  rw [hf]; rfl
theorem Rich.mono {g : GM} {N M : Int} (h : Rich g N) (hM : N ≤ M) : Rich g M := ⟨h.ok, fun m c => ⟨(h.b m c).1, Int.le_trans (h.b m c).2 hM⟩, h.fl, h.sh, h.all⟩
theorem rich_fails {g : GM} {N : Int} (h : Rich g N) (hN : N ≤ 1000000000000) {k : Nat} (hk : k < g.l.nm) {ps : List Pst} {d : Nat → Int} (hp : knownC g.l.nc ps = true) (hg : goI (k : Int) (g.l.B k) ps = some d) (hd : ∀ i, 0 ≤ d i ∧ d i ≤ 1000000000000) : g.fails (k : Int) ps = 0 := by
  rw [fails_nat hk, row_B h.ok.good hk, failF_go hp hg]
  exact failD_rich h.ok.good.ok.nc.2 hd h.ok.oob (h.sh k) (h.all k)
/-- a pay-in -/
theorem inn_rich {g : GM} {N : Int} (h : Rich g N) {m c : Nat} {a : Int} (hm : m < g.l.nm) (hc : c < g.l.nc) (ha : 1 ≤ a) (ha2 : a ≤ 1073741824) (hN : N + 1073741824 ≤ 1000000000000) :
    (g.inn m c a).1 = 0 ∧ Rich (g.inn m c a).2 (N + 1073741824) ∧ (g.inn m c a).2.l.B = upd2 g.l.B m c (g.l.B m c + a) ∧ (g.inn m c a).2.l.nm = g.l.nm ∧ (g.inn m c a).2.l.nc = g.l.nc := by
  have hg := h.ok.good
  have hB := h.b m c
  have hnos : 0 ≤ g.l.N c ∧ g.l.N c ≤ 16 * N := by
    rw [← hg.sum.sum c hc]
    have := sumM_le (f := fun m => g.l.B m c) (N := N) g.l.nm (fun i => h.b i c)
    refine ⟨this.1, Int.le_trans this.2 ?_⟩
    have h16 := hg.ok.nm.2
    exact Int.mul_le_mul_of_nonneg_right (by omega) (by have := h.b 0 0; omega)
  have hhas : g.l.has (m : Int) (c : Int) = true := LM.has_iff.2 ⟨by omega, by omega, by omega, by omega⟩
  have hi : g.l.inn m c a = (0, ⟨g.l.nm, g.l.nc, upd2 g.l.B m c (g.l.B m c + a), upd g.l.N c (g.l.N c + a)⟩) := by
    unfold LM.inn
    rw [if_pos ⟨hhas, ha⟩]
    simp only [Int.toNat_natCast]
    rw [if_pos ⟨by unfold In64; omega, by unfold In64; omega⟩]
  have hE : g.inE m c a = 0 := by
    unfold GM.inE WM.iff GM.x
    have hh : (WM.new g.cs g.l).has (m : Int) = true := by unfold WM.has WM.new; simp; omega
    rw [if_pos hh]
    have hcs : (WM.new g.cs g.l).cs.length = g.l.nc := h.ok.nc
    have hS : (WM.new g.cs g.l).S (m : Int).toNat = g.l.B m := by rw [Int.toNat_natCast]; show g.l.row m = _; exact row_B hg hm
    rw [hcs, hS]
    have hgo : goI (m : Int) (g.l.B m) [⟨m, c, a⟩] = some (upd (g.l.B m) c (g.l.B m c + a)) := by
      unfold goI
      rw [if_pos rfl]
      simp only [Int.toNat_natCast]
      rw [if_pos (by unfold In64; omega)]
      rfl
    rw [ifM_known (known_yes (fun q hq => by simp at hq; subst hq; dsimp only; omega)) hgo]
    obtain ⟨x, _, e⟩ := both_rich (t := (WM.new g.cs g.l).cs) (nc := g.l.nc) (b := upd (g.l.B m) c (g.l.B m c + a)) hg.ok.nc.2 (fun i => by
      unfold upd
      split
      · omega
      · have := h.b m i; omega) h.ok.oob
    rw [e]
  have hres : g.inn m c a = (0, ⟨(g.l.inn m c a).2, g.cs, g.L, if (g.after (g.l.inn m c a).2).fails m [] = 0 then upd g.fl (m : Int).toNat false else g.fl⟩) := by
    unfold GM.inn
    rw [if_neg (by omega), if_neg (by rw [hE]; simp), if_neg (by rw [hi]; simp)]
  have hl := inn_like hg (m : Int) (c : Int) a
  rw [hres] at hl ⊢
  rw [hi] at hl ⊢
  refine ⟨rfl, ⟨⟨hl.1, h.ok.nc, h.ok.chk⟩, fun i j => ?_, fun k hk => ?_, h.sh, h.all⟩, rfl, rfl, rfl⟩
  · have := h.b i j
    show 0 ≤ upd2 g.l.B m c (g.l.B m c + a) i j ∧ upd2 g.l.B m c (g.l.B m c + a) i j ≤ N + 1073741824
    unfold upd2
    split
    · omega
    · omega
  · have hk' : k < g.l.nm := hk
    dsimp only
    split
    · unfold upd
      split
      · rfl
      · exact h.fl k hk'
    · exact h.fl k hk'
def paid (d : Dd.Dl) (m c : Nat) : Int := (if (m : Int) = d.a ∧ (c : Int) = d.sc then d.s else 0) + (if (m : Int) = d.b ∧ (c : Int) = d.bc then d.t else 0)
def got (d : Dd.Dl) (m c : Nat) : Int := (if (m : Int) = d.b ∧ (c : Int) = d.sc then d.s else 0) + (if (m : Int) = d.a ∧ (c : Int) = d.bc then d.t else 0)
theorem upd2_at (f : Nat → Nat → Int) (i j : Nat) (x : Int) (a b : Nat) : upd2 f i j x a b = if a = i ∧ b = j then x else f a b := rfl
/-- both legs, where what is paid is there -/
theorem goP_rich {B : Nat → Nat → Int} {N : Int} {d : Dd.Dl} {nm nc : Int} (hb : ∀ m c, 0 ≤ B m c ∧ B m c ≤ N) (hm : Dd.mayB d nm nc = true) (hs : d.s ≤ 1073741824) (ht : d.t ≤ 1073741824) (hN : N + 1073741824 ≤ 1000000000000) (hp : ∀ m c, paid d m c ≤ B m c) :
    ∃ C, goP B (legs d) = some C ∧ ∀ m c, C m c = B m c - paid d m c + got d m c := by
  obtain ⟨_, _, ⟨a0, a1, b0, b1, hab⟩, ⟨s0, s1, c0, c1, hsc⟩, hs0, ht0⟩ := Dd.mayB_iff.1 hm
  obtain ⟨i, hi⟩ : ∃ i : Nat, d.a = i := ⟨d.a.toNat, by omega⟩
  obtain ⟨j, hj⟩ : ∃ j : Nat, d.b = j := ⟨d.b.toNat, by omega⟩
  obtain ⟨u, hu⟩ : ∃ u : Nat, d.sc = u := ⟨d.sc.toNat, by omega⟩
  obtain ⟨v, hv⟩ : ∃ v : Nat, d.bc = v := ⟨d.bc.toNat, by omega⟩
  have hij : i ≠ j := by omega
  have huv : u ≠ v := by omega
  have p1 := hp i u
  have p2 := hp j v
  unfold paid at p1 p2 hp
  unfold paid got
  unfold legs
  rw [hi, hj, hu, hv] at *
  generalize d.s = s at *
  generalize d.t = t at *
  have q1 : s ≤ B i u := by rw [if_pos ⟨rfl, rfl⟩, if_neg (by omega)] at p1; omega
  have q2 : t ≤ B j v := by rw [if_neg (by omega), if_pos ⟨rfl, rfl⟩] at p2; omega
  have g1 := hb i u
  have g2 := hb j u
  have g3 := hb j v
  have g4 := hb i v
  simp only [goP, Int.toNat_natCast]
  have e2 : ∀ X, upd2 B i u X j u = B j u := fun X => if_neg (by omega)
  have e3 : ∀ X Y, upd2 (upd2 B i u X) j u Y j v = B j v := fun X Y => by rw [upd2_at, if_neg (by omega), upd2_at, if_neg (by omega)]
  have e4 : ∀ X Y Z, upd2 (upd2 (upd2 B i u X) j u Y) j v Z i v = B i v := fun X Y Z => by rw [upd2_at, if_neg (by omega), upd2_at, if_neg (by omega), upd2_at, if_neg (by omega)]
  simp only [e2, e3, e4]
  rw [if_pos (by unfold In64; omega), if_pos (by unfold In64; omega), if_pos (by unfold In64; omega), if_pos (by unfold In64; omega)]
  refine ⟨_, rfl, fun m c => ?_⟩
  simp only [upd2_at]
  clear e2 e3 e4 p1 p2 hp hi hj hu hv hm hab hsc a0 a1 b0 b1 s0 s1 c0 c1
  have n1 : ((m : Int) = (i : Int)) = (m = i) := propext (by omega)
  have n2 : ((m : Int) = (j : Int)) = (m = j) := propext (by omega)
  have n3 : ((c : Int) = (u : Int)) = (c = u) := propext (by omega)
  have n4 : ((c : Int) = (v : Int)) = (c = v) := propext (by omega)
  simp only [n1, n2, n3, n4]
  clear n1 n2 n3 n4
  by_cases m1 : m = i
  · have m2 : ¬ m = j := by omega
    subst m1
    by_cases c1 : c = u
    · have c2 : ¬ c = v := by omega
      subst c1
      simp only [m2, c2, false_and, and_false, and_self, if_true, if_false]
      omega
    · by_cases c2 : c = v
      · subst c2
        simp only [m2, c1, false_and, and_false, and_self, if_true, if_false]
        omega
      · simp only [c1, c2, and_false, if_false]
        omega
  · by_cases m2 : m = j
    · subst m2
      by_cases c1 : c = u
      · have c2 : ¬ c = v := by omega
        subst c1
        simp only [m1, c2, false_and, and_false, and_self, if_true, if_false]
        omega
      · by_cases c2 : c = v
        · subst c2
          simp only [m1, c1, false_and, and_false, and_self, if_true, if_false]
          omega
        · simp only [c1, c2, and_false, if_false]
          omega
    · simp only [m1, m2, false_and, if_false]
      omega
end Go.Proofs.YtiehbbhjpcnbnaaGreat
