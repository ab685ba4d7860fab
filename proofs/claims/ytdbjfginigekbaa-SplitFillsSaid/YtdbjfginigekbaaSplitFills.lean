/- SplitFills answers true, whatever the total and the rooms. -/
import Derived.Test.YtdbjfginigekbaaS7
namespace Go.Proofs.Ytdbjfginigekbaa
open Go.RowKit
set_option linter.unusedVariables false

theorem chain_ok : ∀ (l : List Int) (a : Int), (∀ z ∈ l, 0 ≤ z) → 0 ≤ a → a + sumL l ≤ 9223372036854775807 → chainL a l = (a + sumL l, 0) := by
  intro l
  induction l with
  | nil => intro a _ _ _; simp [chainL, sumL]
  | cons b l ih =>
    intro a h ha hs
    have hb := h b (by simp)
    have hn := sum_nonneg (l := l) fun z hz => h z (by simp [hz])
    simp only [sumL] at hs ⊢
    rw [chainL, if_pos ⟨by omega, by omega⟩, ih (a + b) (fun z hz => h z (by simp [hz])) (by omega) (by omega)]
    congr 1; omega

theorem fill_bd (T : Int) (zs : List Int) (hT : 0 ≤ T) (hz : ∀ z ∈ zs, 0 ≤ z) (k : Nat) : 0 ≤ fillAt T zs k ∧ fillAt T zs k ≤ zs.getD k 0 ∧ fillAt T zs k ≤ T := by
  obtain ⟨h1, h2⟩ := left_nonneg T zs hT hz k
  have := getD_nonneg hz k
  unfold fillAt
  omega

theorem fills_nonneg (T : Int) (zs : List Int) (hT : 0 ≤ T) (hz : ∀ z ∈ zs, 0 ≤ z) : ∀ f ∈ fills T zs, 0 ≤ f := by
  intro f hf
  simp only [fills, List.mem_map] at hf
  obtain ⟨k, _, rfl⟩ := hf
  exact (fill_bd T zs hT hz k).1

theorem sum_fills (T : Int) (zs : List Int) : ∀ k, sumL ((List.range k).map (fillAt T zs)) = T - leftAt T zs k
  | 0 => by simp [sumL, leftAt]
  | k + 1 => by
    rw [List.range_succ, List.map_append, sumL_append, sum_fills T zs k]
    simp only [List.map_cons, List.map_nil, sumL, leftAt, fillAt]
    omega

/-- all rooms ahead of k are full -/
def Full (T : Int) (zs : List Int) (k : Nat) : Prop := ∀ j, j < k → fillAt T zs j = zs.getD j 0

theorem left_zero (T : Int) (zs : List Int) (hT : 0 ≤ T) (hz : ∀ z ∈ zs, 0 ≤ z) : ∀ k, ¬ Full T zs k → leftAt T zs k = 0
  | 0, h => absurd (fun j hj => by omega) h
  | k + 1, h => by
    obtain ⟨h1, h2⟩ := left_nonneg T zs hT hz k
    have h3 := getD_nonneg hz k
    by_cases hk : Full T zs k
    · have hne : fillAt T zs k ≠ zs.getD k 0 := fun e => h fun j hj => by
        by_cases hjk : j = k
        · subst hjk; exact e
        · exact hk j (by omega)
      simp only [fillAt] at hne
      simp only [leftAt]
      omega
    · have := left_zero T zs hT hz k hk
      simp only [leftAt]
      omega

theorem full_step {T : Int} {zs : List Int} {k : Nat} : Full T zs (k + 1) ↔ Full T zs k ∧ fillAt T zs k = zs.getD k 0 := by
  constructor
  · intro h
    exact ⟨fun j hj => h j (by omega), h k (by omega)⟩
  · rintro ⟨h1, h2⟩ j hj
    by_cases hjk : j = k
    · subst hjk; exact h2
    · exact h1 j (by omega)

theorem fills_amt (T : Int) (zs : List Int) (hT : Amt T) (h0 : 0 ≤ T) (hz : ∀ z ∈ zs, 0 ≤ z) (i : Nat) : Amt ((fills T zs).getD i 0) := by
  refine amt_getD _ (fun z hm => ?_) i
  simp only [fills, List.mem_map] at hm
  obtain ⟨k, _, rfl⟩ := hm
  have := fill_bd T zs h0 hz k
  have := hT.2
  exact ⟨by omega, by omega⟩

set_option maxHeartbeats 4000000 in
set_option maxRecDepth 100000 in
theorem splitFills_any (T : Int) (p : Option Addr) (len cap : Nat) (zs : List Int) (w : World) (hT : Amt T) (hs : len ≤ 70 → Seq64 w p len zs) :
    Calls Try.prog 6 #[.int .i64 T, .slice p len cap] w fun e w' => e = .returned (.bool true) ∧ Below w.heap.size w w' := by
  have haw := awake_any w
  by_cases h70 : 70 < len
  · have h70z : (70 : Int) < (len : Int) := by omega
    clear hs
    go_enter Try.func6, Try.ntmps6
    go_wp2_with (first | (go_at_call 7; refine haw.mono ?_; rintro e w1 ⟨rfl, hb1⟩))
    go_ret
    exact ⟨rfl, hb1⟩
  · have h70z : ¬ (70 : Int) < (len : Int) := by omega
    replace hs := hs (by omega)
    by_cases hc : chk T zs = 0
    · obtain ⟨h64, hT0, hz0⟩ := chk_zero hc
      have hT1 := hT.2
      go_enter Try.func6, Try.ntmps6
      go_upto_region 5 with (first | (go_at_call 7; refine haw.mono ?_; rintro e w1 ⟨rfl, hb1⟩))
      have hcon := fill_main T p len cap zs w1 hT (hs.kept hb1) hc
      go_upto_region 8 with (first | (go_at_call 12; refine hcon.mono ?_; rintro e w2 ⟨hb2, g, rfl, hg, hI⟩))
      clear hcon haw
      have hB : Below w.heap.size w w2 := hb1.trans (hb2.mono hb1.size)
      have hs2 := hs.kept hB
      obtain ⟨hl, hz, hm, hcells⟩ := hs2
      rw [hl, decide_eq_false (by omega : ¬ (70 : Int) < (len : Int))]
      obtain ⟨lf0, lf1⟩ := left_nonneg T zs hT0 hz0 len
      have hsum : sumL (fills T zs) = T - leftAt T zs len := by rw [← hl]; exact sum_fills T zs zs.length
      have hch := chain_any (leftAt T zs len) (some ⟨g, 0, none⟩) len len (fills T zs) w2 ⟨by omega, by omega⟩ (hI.seq (by rw [fills_len, hl]) hm (fills_amt T zs hT hT0 hz0))
      rw [chain_ok _ _ (fills_nonneg T zs hT0 hz0) lf0 (by omega), hsum] at hch
      simp only at hch
      rw [show leftAt T zs len + (T - leftAt T zs len) = T by omega] at hch
      have hbd := fill_bd T zs hT0 hz0
      have hlz := left_zero T zs hT0 hz0
      have hfl : ∀ i, i < len → (fills T zs).getD i 0 = fillAt T zs i := fun i hi => fills_at T zs i (by rw [hl]; exact hi)
      have hfn : (fills T zs).length = len := by rw [fills_len, hl]
      generalize hLF : leftAt T zs len = LF at *
      replace hLF := Lib.hid hLF
      replace hl := Lib.hid hl
      replace hz := Lib.hid hz
      replace hcells := Lib.hid hcells
      replace hbd := Lib.hid hbd
      replace hlz := Lib.hid hlz
      replace hfl := Lib.hid hfl
      replace hfn := Lib.hid hfn
      replace hI := Lib.hid hI
      replace hz0 := Lib.hid hz0
      clear hsum hs hc h64 hb1 hb2 hT
      go_upto_region 13 with (first | (go_at_call 17; refine hch.mono ?_; rintro e w3 ⟨rfl, hb3⟩))
      clear hch
      go_loopw [10, 60] (fun fl i wr => ∃ (k : Nat) (fb : Bool), k ≤ len ∧ i = .int .i64 k ∧ fl = .bool fb ∧ (fb = true ↔ Full T zs k) ∧ Below w2.heap.size w2 wr) (fun _ i _ => len - (intOf i).toNat)
      case atStart => exact ⟨0, true, by omega, rfl, rfl, ⟨fun _ j hj => by omega, fun _ => rfl⟩, hb3⟩
      case round =>
        clear hb3
        obtain ⟨k, fb, hk, rfl, rfl, hfb, hb3⟩ := hrel
        by_cases hlt : k < len
        · obtain ⟨b, off, rfl, hblt, hcc⟩ := hcells.out.resolve_left (by omega)
          have e1 : wr.cell? ⟨b, off + k, none⟩ = some (.int .i64 (zs.getD k 0)) := (hb3.cell (p := ⟨b, off + k, none⟩) hblt).trans (hcc k hlt)
          have e2 := (hI.out.kept hb3).cell (i := k) (by rw [hfn.out]; exact hlt)
          rw [hfl.out k hlt] at e2
          obtain ⟨f0, f1, f2⟩ := hbd.out k
          have hz1 := hlz.out k
          have hfs := full_step (T := T) (zs := zs) (k := k)
          have hfe : leftAt T zs k = 0 → fillAt T zs k ≤ 0 := fun h => by simp only [fillAt, h]; omega
          have hkz : (k : Int) < (len : Int) := by omega
          generalize zs.getD k 0 = z at *
          generalize fillAt T zs k = f at *
          replace hfs := Lib.hid hfs
          replace hb3 := Lib.hid hb3
          replace hcc := Lib.hid hcc
          cases fb with
          | true =>
            have hF := hfb.1 rfl
            replace hF := Lib.hid hF
            replace hz1 := Lib.hid hz1
            replace hfe := Lib.hid hfe
            clear hfb
            by_cases hfz : f = z
            · subst hfz
              go_wp2_with fail
              all_goals exact ⟨⟨k + 1, true, by omega, by go_num, rfl, ⟨fun _ => hfs.out.2 ⟨hF.out, rfl⟩, fun _ => rfl⟩, hb3.out⟩, by simp [intOf]; omega⟩
            · go_wp2_with fail
              all_goals exact ⟨⟨k + 1, false, by omega, by go_num, by simp [hfz], ⟨fun h => absurd h Bool.false_ne_true, fun h => absurd (hfs.out.1 h).2 hfz⟩, hb3.out⟩, by simp [intOf]; omega⟩
          | false =>
            have hF : ¬ Full T zs k := fun h => by have := hfb.2 h; cases this
            have hf0 : f = 0 := by have := hfe (hz1 hF); omega
            subst hf0
            replace hF := Lib.hid hF
            clear hfb hz1 hfe
            go_wp2_with fail
            all_goals exact ⟨⟨k + 1, false, by omega, by go_num, rfl, ⟨fun h => absurd h Bool.false_ne_true, fun h => absurd (hfs.out.1 h).1 hF.out⟩, hb3.out⟩, by simp [intOf]; omega⟩
        · have hkn : k = len := by omega
          subst hkn
          have hend : LF = 0 ∨ fb = true := by
            cases fb with
            | true => exact Or.inr rfl
            | false => exact Or.inl (by rw [← hLF.out]; exact hlz.out k fun h => by have := hfb.2 h; cases this)
          replace hb3 := Lib.hid hb3
          clear hfb
          rcases hend with rfl | rfl
          · go_wp2_with fail
            go_ret
            exact ⟨rfl, hB.trans (hb3.out.mono hB.size)⟩
          · by_cases hL0 : LF = 0
            · subst hL0
              go_wp2_with fail
              go_ret
              exact ⟨rfl, hB.trans (hb3.out.mono hB.size)⟩
            · go_wp2_with fail
              go_ret
              exact ⟨rfl, hB.trans (hb3.out.mono hB.size)⟩
    · have hfe := fun w1 h => fill_err T p len cap zs w1 hT h hc
      generalize chk T zs = c at *
      go_enter Try.func6, Try.ntmps6
      go_upto_region 5 with (first | (go_at_call 7; refine haw.mono ?_; rintro e w1 ⟨rfl, hb1⟩))
      have hcon := hfe w1 (hs.kept hb1)
      clear hfe
      go_wp2_with (first | (go_at_call 12; refine hcon.mono ?_; rintro e w2 ⟨rfl, rfl⟩))
      go_ret
      exact ⟨rfl, hb1⟩

end Go.Proofs.Ytdbjfginigekbaa
