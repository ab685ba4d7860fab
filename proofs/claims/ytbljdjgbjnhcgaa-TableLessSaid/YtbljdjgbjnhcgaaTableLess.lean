/- TableLess answers true, whatever the table, the place and the amounts. -/
import Derived.Test.YtbljdjgbjnhcgaaTableBack
import Derived.Deep.DeepCutAuto
namespace Go.Proofs.Ytbljdjgbjnhcgaa
open Go.RowKit
set_option linter.unusedVariables false

/-- the lesser one of two straight lines -/
def lineT (m n a : Int) : Int := if a < 0 then a * n else a * m
theorem line_mono (m n a b : Int) (hm : 0 ≤ m) (hn : 0 ≤ n) (h : a ≤ b) : lineT m n a ≤ lineT m n b := by
  unfold lineT
  by_cases ha : a < 0
  · rw [if_pos ha]
    by_cases hb : b < 0
    · rw [if_pos hb]; exact Int.mul_le_mul_of_nonneg_right h hn
    · rw [if_neg hb]
      have h1 : a * n ≤ 0 := Int.mul_nonpos_of_nonpos_of_nonneg (by omega) hn
      have h2 : 0 ≤ b * m := Int.mul_nonneg (by omega) hm
      omega
  · rw [if_neg ha, if_neg (by omega)]; exact Int.mul_le_mul_of_nonneg_right h hm
theorem line_le (m n a : Int) (h : m ≤ n) : lineT m n a ≤ a * m ∧ lineT m n a ≤ a * n := by
  unfold lineT
  by_cases ha : a < 0
  · rw [if_pos ha]
    have : a * n ≤ a * m := Int.mul_le_mul_of_nonpos_left (by omega) h
    omega
  · rw [if_neg ha]
    have : a * m ≤ a * n := Int.mul_le_mul_of_nonneg_left h (by omega)
    omega
theorem line_add (m n a b : Int) (h : m ≤ n) : lineT m n a + lineT m n b ≤ lineT m n (a + b) := by
  obtain ⟨a1, a2⟩ := line_le m n a h
  obtain ⟨b1, b2⟩ := line_le m n b h
  by_cases hs : a + b < 0
  · rw [show lineT m n (a + b) = (a + b) * n from if_pos hs, Int.add_mul]; omega
  · rw [show lineT m n (a + b) = (a + b) * m from if_neg hs, Int.add_mul]; omega
theorem line_same (m n a b : Int) (h : (a < 0 ∧ b < 0) ∨ (¬ a < 0 ∧ ¬ b < 0)) : lineT m n (a + b) = lineT m n a + lineT m n b := by
  unfold lineT
  rcases h with ⟨h1, h2⟩ | ⟨h1, h2⟩
  · rw [if_pos h1, if_pos h2, if_pos (by omega), Int.add_mul]
  · rw [if_neg h1, if_neg h2, if_neg (by omega), Int.add_mul]

theorem worth_line (c : Cur) (a : Int) : worthT c a * 100000000 ≤ lineT (c.rate * (10000 - c.cut)) (c.rate * (10000 + c.cut)) a ∧ lineT (c.rate * (10000 - c.cut)) (c.rate * (10000 + c.cut)) a < worthT c a * 100000000 + 100000000 := by
  have h := down_spec a (c.rate * partOf c a) 100000000 (by decide)
  have e : a * (c.rate * partOf c a) = lineT (c.rate * (10000 - c.cut)) (c.rate * (10000 + c.cut)) a := by
    unfold lineT partOf
    by_cases ha : a < 0
    · rw [if_pos ha, if_pos ha]
    · rw [if_neg ha, if_neg ha]
  rw [e] at h
  exact h
theorem part_mono (c : Cur) (ho : oobB c = false) : 0 ≤ c.rate * (10000 - c.cut) ∧ c.rate * (10000 - c.cut) ≤ c.rate * 10000 ∧ c.rate * 10000 ≤ c.rate * (10000 + c.cut) := by
  obtain ⟨r0, r1, u0, u1⟩ := oob_no ho
  refine ⟨Int.mul_nonneg (by omega) (by omega), ?_, ?_⟩ <;> exact Int.mul_le_mul_of_nonneg_left (by omega) (by omega)
theorem worth_plain (c : Cur) (ho : oobB c = false) (a : Int) : worthT c a ≤ plainT c a := by
  obtain ⟨h1, h2⟩ := worth_line c a
  obtain ⟨p0, p1, p2⟩ := part_mono c ho
  obtain ⟨q1, q2⟩ := down_spec a c.rate 10000 (by decide)
  have e : plainT c a = muldiv a c.rate 10000 false := rfl
  rw [← e] at q1 q2
  have h3 : lineT (c.rate * (10000 - c.cut)) (c.rate * (10000 + c.cut)) a ≤ a * (c.rate * 10000) := by
    unfold lineT
    by_cases ha : a < 0
    · rw [if_pos ha]; exact Int.mul_le_mul_of_nonpos_left (by omega) p2
    · rw [if_neg ha]; exact Int.mul_le_mul_of_nonneg_left p1 (by omega)
  rw [← Int.mul_assoc] at h3
  omega
theorem worth_mono (c : Cur) (ho : oobB c = false) (a b : Int) (h : a ≤ b) : worthT c a ≤ worthT c b := by
  obtain ⟨h1, h2⟩ := worth_line c a
  obtain ⟨h3, h4⟩ := worth_line c b
  obtain ⟨p0, p1, p2⟩ := part_mono c ho
  have := line_mono (c.rate * (10000 - c.cut)) (c.rate * (10000 + c.cut)) a b p0 (by omega) h
  omega
theorem worth_add (c : Cur) (ho : oobB c = false) (a b : Int) : worthT c a + worthT c b ≤ worthT c (a + b) := by
  obtain ⟨h1, h2⟩ := worth_line c a
  obtain ⟨h3, h4⟩ := worth_line c b
  obtain ⟨h5, h6⟩ := worth_line c (a + b)
  obtain ⟨p0, p1, p2⟩ := part_mono c ho
  have := line_add (c.rate * (10000 - c.cut)) (c.rate * (10000 + c.cut)) a b (by omega)
  omega
theorem worth_one (c : Cur) (a b : Int) (h : (a < 0 ∧ b < 0) ∨ (¬ a < 0 ∧ ¬ b < 0)) : worthT c (a + b) ≤ worthT c a + worthT c b + 1 := by
  obtain ⟨h1, h2⟩ := worth_line c a
  obtain ⟨h3, h4⟩ := worth_line c b
  obtain ⟨h5, h6⟩ := worth_line c (a + b)
  have := line_same (c.rate * (10000 - c.cut)) (c.rate * (10000 + c.cut)) a b h
  omega

/-- what is told of two amounts, and of both together -/
theorem less_math (c : Cur) (ho : oobB c = false) (a b : Int) :
    (fitE (worthT c a) = 0 → fitE (plainT c a) = 0 → fitV (worthT c a) ≤ fitV (plainT c a)) ∧
    (fitE (worthT c a) = 0 → fitE (worthT c b) = 0 → (a < b → fitV (worthT c a) ≤ fitV (worthT c b)) ∧ (b < a → fitV (worthT c b) ≤ fitV (worthT c a)) ∧ (a = b → fitV (worthT c a) = fitV (worthT c b)) ∧
      (fitE (a + b) = 0 → fitE (fitV (worthT c a) + fitV (worthT c b)) = 0 → fitE (worthT c (fitV (a + b))) = 0 →
        fitV (fitV (worthT c a) + fitV (worthT c b)) ≤ fitV (worthT c (fitV (a + b))) ∧ ((a < 0 ∧ b < 0) ∨ (¬ a < 0 ∧ ¬ b < 0) → fitV (worthT c (fitV (a + b))) ≤ fitV (fitV (worthT c a) + fitV (worthT c b)) + 1))) := by
  constructor
  · intro h1 h2
    rcases fit_split (worthT c a) with ⟨_, e1, _⟩ | ⟨e, _⟩
    · rcases fit_split (plainT c a) with ⟨_, e2, _⟩ | ⟨e, _⟩
      · rw [e1, e2]; exact worth_plain c ho a
      · omega
    · omega
  · intro h1 h2
    rcases fit_split (worthT c a) with ⟨_, e1, _⟩ | ⟨e, _⟩
    · rcases fit_split (worthT c b) with ⟨_, e2, _⟩ | ⟨e, _⟩
      · rw [e1, e2]
        refine ⟨fun h => worth_mono c ho a b (by omega), fun h => worth_mono c ho b a (by omega), fun h => by rw [h], fun h3 h4 h5 => ?_⟩
        rcases fit_split (a + b) with ⟨_, e3, _⟩ | ⟨e, _⟩
        · rw [e3] at h5 ⊢
          rcases fit_split (worthT c a + worthT c b) with ⟨_, e4, _⟩ | ⟨e, _⟩
          · rcases fit_split (worthT c (a + b)) with ⟨_, e5, _⟩ | ⟨e, _⟩
            · rw [e4, e5]
              exact ⟨worth_add c ho a b, fun h => worth_one c a b h⟩
            · omega
          · omega
        · omega
      · omega
    · omega

set_option maxHeartbeats 2000000 in
set_option maxRecDepth 100000 in
theorem less_large (p : Option Addr) (len cap : Nat) (cs : List Cur) (f a b : Int) (w : World) (hs : Tab w p len cs) (hL : largeB cs = true) :
    Calls Try.prog 5 #[.slice p len cap, .int .i64 f, .int .i64 a, .int .i64 b] w fun e w' => e = .returned (.bool true) ∧ Below w.heap.size w w' := by
  go_enter Try.func5, Try.ntmps5
  go_wp2_with fail
  refine (awake_any _).mono ?_
  rintro e w1 ⟨rfl, hb1⟩
  have hs1 := hs.kept hb1
  have hcl := large_any p len cap cs w1 hs1
  replace hb1 := Lib.hid hb1
  clear hs
  rw [hL] at hcl
  replace hcl := Lib.hid hcl
  clear hs1 hL
  go_wp2_with fail
  refine hcl.out.mono ?_
  rintro e w2 ⟨rfl, rfl⟩
  go_wp2_with fail
  go_ret
  exact ⟨rfl, hb1.out⟩
set_option maxHeartbeats 2000000 in
set_option maxRecDepth 100000 in
theorem less_none (p : Option Addr) (len cap : Nat) (cs : List Cur) (f a b : Int) (w : World) (hs : Tab w p len cs) (hL : largeB cs = false) (hC : ¬ chkT cs = 0) :
    Calls Try.prog 5 #[.slice p len cap, .int .i64 f, .int .i64 a, .int .i64 b] w fun e w' => e = .returned (.bool true) ∧ Below w.heap.size w w' := by
  go_enter Try.func5, Try.ntmps5
  go_wp2_with fail
  refine (awake_any _).mono ?_
  rintro e w1 ⟨rfl, hb1⟩
  have hs1 := hs.kept hb1
  have hcl := large_any p len cap cs w1 hs1
  replace hb1 := Lib.hid hb1
  clear hs
  rw [hL] at hcl
  have hcc := check_any p len cap cs w1 hs1
  generalize chkT cs = n at *
  have hn : (n != 0) = true := by simpa using hC
  replace hcl := Lib.hid hcl
  replace hcc := Lib.hid hcc
  clear hs1 hL hC
  go_wp2_with fail
  refine hcl.out.mono ?_
  rintro e w2 ⟨rfl, rfl⟩
  go_wp2_with fail
  refine hcc.out.mono ?_
  rintro e w2 ⟨rfl, hb2⟩
  replace hb2 := Lib.hid (chain_trans hb1.out hb2)
  go_wp2_with fail
  go_ret
  exact ⟨rfl, hb2.out⟩
set_option maxHeartbeats 2000000 in
set_option maxRecDepth 100000 in
theorem less_skip (p : Option Addr) (len cap : Nat) (cs : List Cur) (f a b : Int) (w : World) (hs : Tab w p len cs) (hL : largeB cs = false) (hC : chkT cs = 0) (hm : f < 0 ∨ (len : Int) ≤ f) :
    Calls Try.prog 5 #[.slice p len cap, .int .i64 f, .int .i64 a, .int .i64 b] w fun e w' => e = .returned (.bool true) ∧ Below w.heap.size w w' := by
  go_enter Try.func5, Try.ntmps5
  go_wp2_with fail
  refine (awake_any _).mono ?_
  rintro e w1 ⟨rfl, hb1⟩
  have hs1 := hs.kept hb1
  have hcl := large_any p len cap cs w1 hs1
  replace hb1 := Lib.hid hb1
  clear hs
  rw [hL] at hcl
  have hcc := check_any p len cap cs w1 hs1
  rw [hC] at hcc
  replace hcl := Lib.hid hcl
  replace hcc := Lib.hid hcc
  clear hs1 hL hC
  go_wp2_with fail
  refine hcl.out.mono ?_
  rintro e w2 ⟨rfl, rfl⟩
  go_wp2_with fail
  refine hcc.out.mono ?_
  rintro e w2 ⟨rfl, hb2⟩
  replace hb2 := Lib.hid (chain_trans hb1.out hb2)
  by_cases q0 : f < 0
  · have t0 : decide (f < 0) = true := by simp; omega
    clear hm
    go_wp2_with fail
    go_ret
    exact ⟨rfl, hb2.out⟩
  · have t0 : decide (f < 0) = false := by simp; omega
    have t1 : decide ((len : Int) ≤ f) = true := by simp; omega
    clear hm
    go_wp2_with fail
    go_ret
    exact ⟨rfl, hb2.out⟩

set_option maxHeartbeats 8000000 in
set_option maxRecDepth 100000 in
theorem less_main (p : Option Addr) (len cap : Nat) (cs : List Cur) (k : Nat) (a b : Int) (w : World) (hs : Tab w p len cs) (hL : largeB cs = false) (hC : chkT cs = 0) (hk : k < len) (ha : Amt a) (hb : Amt b) :
    Calls Try.prog 5 #[.slice p len cap, .int .i64 k, .int .i64 a, .int .i64 b] w fun e w' => e = .returned (.bool true) ∧ Below w.heap.size w w' := by
  obtain ⟨_, _, hoo, _⟩ := chk_ok hC
  have hle := hs.1
  have ok := hoo k (by omega)
  obtain ⟨hm1, hm2⟩ := less_math (cAt cs k) ok a b
  have hz := fit_amt (fitV (worthT (cAt cs k) a) + fitV (worthT (cAt cs k) b))
  have hz2 := fit_amt (worthT (cAt cs k) (fitV (a + b)))
  go_enter Try.func5, Try.ntmps5
  go_wp2_with fail
  refine (awake_any _).mono ?_
  rintro e w1 ⟨rfl, hb1⟩
  replace hs := hs.kept hb1
  have hcl := large_any p len cap cs w1 hs
  rw [hL] at hcl
  replace hcl := Lib.hid hcl
  replace hb1 := Lib.hid hb1
  have hcc := check_any p len cap cs w1 hs
  rw [hC] at hcc
  replace hcc := Lib.hid hcc
  have c1 := fun w hs => worth_any p len cap cs k a w hs hk ha ok
  have c2 := fun w hs => worth_any p len cap cs k b w hs hk hb ok
  have c3 := fun w hs => plain_any p len cap cs k a w hs hk ha ok
  have c4 := fun w => add_any a b w ha.1 ha.2 hb.1 hb.2
  have c5 := fun w => add_any (fitV (worthT (cAt cs k) a)) (fitV (worthT (cAt cs k) b)) w (fit_amt _).1 (fit_amt _).2 (fit_amt _).1 (fit_amt _).2
  have c6 := fun w hs => worth_any p len cap cs k (fitV (a + b)) w hs hk (fit_amt _) ok
  generalize fitV (worthT (cAt cs k) (fitV (a + b))) = z at *
  generalize fitE (worthT (cAt cs k) (fitV (a + b))) = ez at *
  generalize fitV (fitV (worthT (cAt cs k) a) + fitV (worthT (cAt cs k) b)) = ap at *
  generalize fitE (fitV (worthT (cAt cs k) a) + fitV (worthT (cAt cs k) b)) = ea at *
  generalize fitV (worthT (cAt cs k) a) = x at *
  generalize fitE (worthT (cAt cs k) a) = ex at *
  generalize fitV (worthT (cAt cs k) b) = y at *
  generalize fitE (worthT (cAt cs k) b) = ey at *
  generalize fitV (plainT (cAt cs k) a) = pl at *
  generalize fitE (plainT (cAt cs k) a) = ep at *
  generalize fitV (a + b) = sm at *
  generalize fitE (a + b) = es at *
  replace c1 := Lib.hid c1
  replace c2 := Lib.hid c2
  replace c3 := Lib.hid c3
  replace c4 := Lib.hid c4
  replace c5 := Lib.hid c5
  replace c6 := Lib.hid c6
  replace hs := Lib.hid hs
  replace hm1 := Lib.hid hm1
  replace hm2 := Lib.hid hm2
  replace hle := Lib.hid hle
  have t1 : decide ((k : Int) < 0) = false := by simp
  have t2 : decide ((len : Int) ≤ (k : Int)) = false := by simp; omega
  clear hoo ok hL hC
  go_wp2_with fail
  refine hcl.out.mono ?_
  rintro e w2 ⟨rfl, rfl⟩
  go_wp2_with fail
  refine hcc.out.mono ?_
  rintro e w2 ⟨rfl, hb2⟩
  replace hs := Lib.hid (hs.out.kept hb2)
  replace hb2 := Lib.hid (chain_trans hb1.out hb2)
  clear hb1 hcc hcl
  go_wp2_with fail
  refine (c1.out _ hs.out).mono ?_
  rintro e w3 ⟨rfl, hb3⟩
  replace hs := Lib.hid (hs.out.kept hb3)
  replace hb3 := Lib.hid (chain_trans hb2.out hb3)
  clear hb2 c1
  go_wp2_with fail
  refine (c2.out _ hs.out).mono ?_
  rintro e w4 ⟨rfl, hb4⟩
  replace hs := Lib.hid (hs.out.kept hb4)
  replace hb4 := Lib.hid (chain_trans hb3.out hb4)
  clear hb3 c2
  go_wp2_with fail
  refine (c3.out _ hs.out).mono ?_
  rintro e w5 ⟨rfl, hb5⟩
  replace hs := Lib.hid (hs.out.kept hb5)
  replace hb5 := Lib.hid (chain_trans hb4.out hb5)
  clear hb4 c3
  by_cases h1 : ex = 0
  · subst h1
    replace hm1 := Lib.hid (hm1.out rfl)
    replace hm2 := Lib.hid (hm2.out rfl)
    go_upto_region 8 with (fail)
    go_cut [71] (fun v wc => v = .bool false ∧ wc = w5)
    case first =>
      by_cases h2 : ep = 0
      · subst h2
        have h3 : decide (pl < x) = false := by have := hm1.out rfl; simp; omega
        go_wp2_with fail
        go_meet
        exact ⟨rfl, rfl⟩
      · have h3 : (ep == 0) = false := by simpa using h2
        go_wp2_with fail
        go_meet
        exact ⟨rfl, rfl⟩
    case rest =>
      obtain ⟨rfl, rfl⟩ := hcut
      by_cases h2 : ey = 0
      · subst h2
        obtain ⟨m1, m2, m3, m4⟩ := hm2.out rfl
        replace m4 := Lib.hid m4
        replace m1 := Lib.hid m1
        replace m2 := Lib.hid m2
        replace m3 := Lib.hid m3
        clear hm1 hm2
        go_upto_region 12 with (fail)
        go_cut [105] (fun v wc' => v = .bool false ∧ wc' = wc)
        case first =>
          rcases (by omega : a < b ∨ b < a ∨ a = b) with h | h | h
          · have q1 : decide (a < b) = true := by simpa using h
            have q2 : decide (b < a) = false := by simp; omega
            have q3 : (a == b) = false := by simp; omega
            have q4 : decide (y < x) = false := by have := m1.out h; simp; omega
            go_wp2_with fail
            go_meet
            exact ⟨rfl, rfl⟩
          · have q1 : decide (a < b) = false := by simp; omega
            have q2 : decide (b < a) = true := by simpa using h
            have q3 : (a == b) = false := by simp; omega
            have q4 : decide (x < y) = false := by have := m2.out h; simp; omega
            go_wp2_with fail
            go_meet
            exact ⟨rfl, rfl⟩
          · have q4 := m3.out h
            subst h
            subst q4
            have q1 : decide (a < a) = false := by simp
            go_wp2_with fail
            go_meet
            exact ⟨rfl, rfl⟩
        case rest =>
          obtain ⟨rfl, rfl⟩ := hcut
          clear m1 m2 m3
          go_wp2_with fail
          refine (c4.out _).mono ?_
          rintro e w6 ⟨rfl, hb6⟩
          replace hs := Lib.hid (hs.out.kept hb6)
          replace hb6 := Lib.hid (chain_trans hb5.out hb6)
          clear hb5 c4
          go_wp2_with fail
          refine (c5.out _).mono ?_
          rintro e w7 ⟨rfl, hb7⟩
          replace hs := Lib.hid (hs.out.kept hb7)
          replace hb7 := Lib.hid (chain_trans hb6.out hb7)
          clear hb6 c5
          go_wp2_with fail
          refine (c6.out _ hs.out).mono ?_
          rintro e w8 ⟨rfl, hb8⟩
          replace hb8 := Lib.hid (chain_trans hb7.out hb8)
          clear hb7 c6 hs t1 t2
          by_cases h3 : es = 0
          · subst h3
            by_cases h4 : ea = 0
            · subst h4
              by_cases h5 : ez = 0
              · subst h5
                obtain ⟨g1, g2⟩ := m4.out rfl rfl rfl
                replace g2 := Lib.hid g2
                obtain ⟨z0, z1⟩ := hz
                obtain ⟨z2, z3⟩ := hz2
                have q0 : decide (ap ≤ z) = true := by simpa using g1
                by_cases h6 : a < 0
                · have q1 : decide (a < 0) = true := by simpa using h6
                  by_cases h7 : b < 0
                  · have q2 : decide (b < 0) = true := by simpa using h7
                    have g3 := g2.out (by omega)
                    by_cases h8 : z = ap
                    · subst h8
                      go_wp2_with fail
                      go_ret
                      exact ⟨rfl, hb8.out⟩
                    · have q3 : (z == ap) = false := by simpa using h8
                      have g4 : z = ap + 1 := by omega
                      have q4 : (z == ap + 1) = true := by simpa using g4
                      replace g4 := Lib.hid g4
                      have z4 : ap + 1 ≤ 9223372036854775807 := by rw [← g4.out]; exact z3
                      go_wp2_with fail
                      go_ret
                      exact ⟨rfl, hb8.out⟩
                  · have q2 : decide (b < 0) = false := by simpa using h7
                    go_wp2_with fail
                    go_ret
                    exact ⟨rfl, hb8.out⟩
                · have q1 : decide (a < 0) = false := by simpa using h6
                  by_cases h7 : b < 0
                  · have q2 : decide (b < 0) = true := by simpa using h7
                    go_wp2_with fail
                    go_ret
                    exact ⟨rfl, hb8.out⟩
                  · have q2 : decide (b < 0) = false := by simpa using h7
                    have g3 := g2.out (by omega)
                    by_cases h8 : z = ap
                    · subst h8
                      go_wp2_with fail
                      go_ret
                      exact ⟨rfl, hb8.out⟩
                    · have q3 : (z == ap) = false := by simpa using h8
                      have g4 : z = ap + 1 := by omega
                      have q4 : (z == ap + 1) = true := by simpa using g4
                      replace g4 := Lib.hid g4
                      have z4 : ap + 1 ≤ 9223372036854775807 := by rw [← g4.out]; exact z3
                      go_wp2_with fail
                      go_ret
                      exact ⟨rfl, hb8.out⟩
              · have q0 : (ez != 0) = true := by simpa using h5
                go_wp2_with fail
                go_ret
                exact ⟨rfl, hb8.out⟩
            · have q0 : (ea != 0) = true := by simpa using h4
              go_wp2_with fail
              go_ret
              exact ⟨rfl, hb8.out⟩
          · have q0 : (es != 0) = true := by simpa using h3
            go_wp2_with fail
            go_ret
            exact ⟨rfl, hb8.out⟩
      · have h3 : (ey != 0) = true := by simpa using h2
        go_wp2_with fail
        go_ret
        exact ⟨rfl, hb5.out⟩
  · have h3 : (ex == 0) = false := by simpa using h1
    have h4 : (ex != 0) = true := by simpa using h1
    go_wp2_with fail
    go_ret
    exact ⟨rfl, hb5.out⟩

theorem tableLess_any (p : Option Addr) (len cap : Nat) (cs : List Cur) (f a b : Int) (w : World) (hs : Tab w p len cs) (hf : Amt f) (ha : Amt a) (hb : Amt b) :
    Calls Try.prog 5 #[.slice p len cap, .int .i64 f, .int .i64 a, .int .i64 b] w fun e w' => e = .returned (.bool true) ∧ Below w.heap.size w w' := by
  by_cases hL : largeB cs = true
  · exact less_large p len cap cs f a b w hs hL
  · replace hL : largeB cs = false := by simpa using hL
    by_cases hC : chkT cs = 0
    · by_cases hm : f < 0 ∨ (len : Int) ≤ f
      · exact less_skip p len cap cs f a b w hs hL hC hm
      · obtain ⟨k, rfl⟩ : ∃ k : Nat, f = k := ⟨f.toNat, by omega⟩
        exact less_main p len cap cs k a b w hs hL hC (by omega) ha hb
    · exact less_none p len cap cs f a b w hs hL hC

end Go.Proofs.Ytbljdjgbjnhcgaa
