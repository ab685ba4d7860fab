/- The contracts of split's Even and Fill, and of the reference's Same. -/
import Derived.Test.YtdbjfginigekbaaS5
import Derived.BigQuiet
import Derived.Deep.QuietTactic
namespace Go.Proofs.Ytdbjfginigekbaa
open Go.RowKit
set_option linter.unusedVariables false

theorem IRow.seq {w : World} {g n : Nat} {ds : List Int} (h : IRow 2 w g ds) (hl : ds.length = n) (hn : n ≤ 4611686018427387904) (ha : ∀ i, Amt (ds.getD i 0)) : Seq64 w (some ⟨g, 0, none⟩) n ds :=
  ⟨hl, ha, hn, .inr ⟨g, 0, rfl, h.lt, fun i hi => by rw [Nat.zero_add]; exact h.cell (by omega)⟩⟩

theorem laidBy_ones (n : Nat) : laidBy (fun _ => 1) n n = List.replicate n 1 := by
  apply List.ext_getElem
  · simp [laidBy]
  · intro i h1 h2
    have : i < n := by simpa using h2
    simp [laidBy, this]

theorem ones_amt (n i : Nat) : Amt ((List.replicate n (1 : Int)).getD i 0) := by
  refine amt_getD _ (fun z hz => ?_) i
  rw [List.eq_of_mem_replicate hz]; exact ⟨by decide, by decide⟩

/-- what Even hands back -/
def EvOut (T n : Int) (w w' : World) (e : Ending) : Prop :=
  (64 < n ∧ e = .returned (.tuple #[.slice none 0 0, .int .i64 4])) ∨ (n < 1 ∧ e = .returned (.tuple #[.slice none 0 0, .int .i64 1])) ∨
  (∃ m : Nat, n = m ∧ 1 ≤ m ∧ m ≤ 64 ∧ ShOut T (List.replicate m 1) w w' e)

set_option maxHeartbeats 2000000 in
set_option maxRecDepth 100000 in
theorem even_any (T n : Int) (w : World) (hT : Amt T) (hn : Amt n) :
    Calls Try.prog 10 #[.int .i64 T, .int .i64 n] w fun e w' => Below w.heap.size w w' ∧ EvOut T n w w' e := by
  replace hT := Lib.hid hT
  obtain ⟨n0, n1⟩ := hn
  by_cases h64 : 64 < n
  · go_enter Try.func10, Try.ntmps10
    go_wp2_with fail
    go_ret2
    exact ⟨Below.refl _ _, Or.inl ⟨h64, rfl⟩⟩
  · by_cases h1 : n < 1
    · go_enter Try.func10, Try.ntmps10
      go_wp2_with fail
      go_ret2
      exact ⟨Below.refl _ _, Or.inr (Or.inl ⟨h1, rfl⟩)⟩
    · obtain ⟨m, rfl⟩ := Int.eq_ofNat_of_zero_le (by omega : 0 ≤ n)
      have mk22 := make22 m (by omega)
      go_enter Try.func10, Try.ntmps10
      go_upto_region 7 with (fail)
      clear mk22
      go_loopw [16] (fun i wr => ∃ k : Nat, k ≤ m ∧ i = .int .i64 k ∧ IRow 2 wr w.heap.size (laidBy (fun _ => 1) m k) ∧ Below w.heap.size w wr) (fun i _ => m - (intOf i).toNat)
      case atStart => exact ⟨0, by omega, rfl, by rw [laidBy_zero]; exact IRow.made 2 w m, (Below.refl _ _).alloc (Nat.le_refl _) _⟩
      case round =>
        obtain ⟨k, hk, rfl, hrow, hbel⟩ := hrel
        by_cases hlt : k < m
        · have c0 := hrow.cell (i := k) (by rw [laidBy_length]; exact hlt)
          have f0 := hrow.free (i := k)
          have hkz : (k : Int) < (m : Int) := by omega
          replace hrow := Lib.hid hrow
          replace hbel := Lib.hid hbel
          go_wp2_with fail
          go_roundw
          case rel =>
            refine ⟨k + 1, by omega, by go_num, ?_, hbel.out.setCell (Nat.le_refl _) _⟩
            rw [← laidBy_set _ m k hlt]
            exact hrow.out.set 1
          case measure => simp [intOf]; omega
        · have hkn : k = m := by omega
          subst hkn
          rw [laidBy_ones] at hrow
          have hcon := shares_any T (some ⟨w.heap.size, 0, none⟩) k k (List.replicate k 1) wr hT.out (hrow.seq (by simp) (by omega) (ones_amt k))
          replace hrow := Lib.hid hrow
          replace hbel := Lib.hid hbel
          go_wp2_with (first | (go_at_call 8; refine hcon.mono ?_; rintro e w3 ⟨hb3, hout⟩; rcases hout with ⟨hE, rfl⟩ | ⟨hE, g, rfl, hg, hI⟩))
          · go_ret2
            exact ⟨hbel.out.trans (hb3.mono hbel.out.size), Or.inr (Or.inr ⟨k, rfl, by omega, by omega, Or.inl ⟨hE, rfl⟩⟩)⟩
          · go_ret2
            exact ⟨hbel.out.trans (hb3.mono hbel.out.size), Or.inr (Or.inr ⟨k, rfl, by omega, by omega, Or.inr ⟨hE, g, by rw [List.length_replicate]; rfl, Nat.le_trans hbel.out.size hg, hI⟩⟩)⟩

/-- what is left of the total ahead of room k -/
def leftAt (T : Int) (zs : List Int) : Nat → Int
  | 0 => T
  | k + 1 => leftAt T zs k - min (zs.getD k 0) (leftAt T zs k)
/-- what room k gets -/
def fillAt (T : Int) (zs : List Int) (k : Nat) : Int := min (zs.getD k 0) (leftAt T zs k)
def fills (T : Int) (zs : List Int) : List Int := (List.range zs.length).map (fillAt T zs)
theorem fills_len (T : Int) (zs : List Int) : (fills T zs).length = zs.length := by simp [fills]
theorem fills_at (T : Int) (zs : List Int) (i : Nat) (h : i < zs.length) : (fills T zs).getD i 0 = fillAt T zs i := by
  rw [List.getD_eq_getElem?_getD, List.getElem?_eq_getElem (by rw [fills_len]; exact h)]
  simp [fills]
theorem getD_nonneg {zs : List Int} (hz : ∀ z ∈ zs, 0 ≤ z) (i : Nat) : 0 ≤ zs.getD i 0 := by
  rw [List.getD_eq_getElem?_getD]
  cases h : zs[i]? with
  | none => simp
  | some z => exact hz z (List.mem_of_getElem? h)
theorem left_nonneg (T : Int) (zs : List Int) (hT : 0 ≤ T) (hz : ∀ z ∈ zs, 0 ≤ z) : ∀ k, 0 ≤ leftAt T zs k ∧ leftAt T zs k ≤ T
  | 0 => ⟨hT, Int.le_refl _⟩
  | k + 1 => by
    obtain ⟨h1, h2⟩ := left_nonneg T zs hT hz k
    have := getD_nonneg hz k
    simp only [leftAt]
    omega
theorem laidBy_fills (T : Int) (zs : List Int) : laidBy (fillAt T zs) zs.length zs.length = fills T zs := by
  apply List.ext_getElem
  · simp [laidBy, fills]
  · intro i h1 h2
    have : i < zs.length := by simpa [fills] using h2
    simp [laidBy, fills, this]

/-- what Fill hands back -/
def FiOut (T : Int) (zs : List Int) (w w' : World) (e : Ending) : Prop :=
  (chk T zs ≠ 0 ∧ e = .returned (.tuple #[.slice none 0 0, .int .i64 0, .int .i64 (chk T zs)])) ∨
  (chk T zs = 0 ∧ ∃ g, e = .returned (.tuple #[.slice (some ⟨g, 0, none⟩) zs.length zs.length, .int .i64 (leftAt T zs zs.length), .int .i64 0]) ∧ w.heap.size ≤ g ∧ IRow 2 w' g (fills T zs))

set_option maxHeartbeats 2000000 in
set_option maxRecDepth 100000 in
theorem fill_err (T : Int) (p : Option Addr) (len cap : Nat) (zs : List Int) (w : World) (hT : Amt T) (hs : Seq64 w p len zs) (hc : chk T zs ≠ 0) :
    Calls Try.prog 12 #[.int .i64 T, .slice p len cap] w fun e w' => w' = w ∧ e = .returned (.tuple #[.slice none 0 0, .int .i64 0, .int .i64 (chk T zs)]) := by
  have hcon := check_any T p len cap zs w hT hs
  generalize chk T zs = c at *
  clear hs hT
  go_enter Try.func12, Try.ntmps12
  go_wp2_with (first | (go_at_call 18; refine hcon.mono ?_; rintro e w' ⟨rfl, rfl⟩))
  go_ret3
  exact ⟨rfl, rfl⟩

set_option maxHeartbeats 2000000 in
set_option maxRecDepth 100000 in
theorem fill_main (T : Int) (p : Option Addr) (len cap : Nat) (zs : List Int) (w : World) (hT : Amt T) (hs : Seq64 w p len zs) (hc : chk T zs = 0) :
    Calls Try.prog 12 #[.int .i64 T, .slice p len cap] w fun e w' => Below w.heap.size w w' ∧ ∃ g, e = .returned (.tuple #[.slice (some ⟨g, 0, none⟩) zs.length zs.length, .int .i64 (leftAt T zs zs.length), .int .i64 0]) ∧ w.heap.size ≤ g ∧ IRow 2 w' g (fills T zs) := by
  obtain ⟨h64, hT0, hz0⟩ := chk_zero hc
  obtain ⟨_, hT1⟩ := hT
  have hcon := check_any T p len cap zs w ⟨by omega, hT1⟩ hs
  rw [hc] at hcon
  obtain ⟨hl, hz, hm, hcells⟩ := hs
  have hleft := left_nonneg T zs hT0 hz0
  have hnn := getD_nonneg hz0
  have hlf := laidBy_fills T zs
  rw [hl] at h64 hlf
  have mk22 := make22 len (by omega)
  replace hl := Lib.hid hl
  replace hz := Lib.hid hz
  replace hcells := Lib.hid hcells
  replace hleft := Lib.hid hleft
  replace hnn := Lib.hid hnn
  replace hlf := Lib.hid hlf
  clear hc hz0
  go_enter Try.func12, Try.ntmps12
  go_upto_region 7 with (first | (go_at_call 18; refine hcon.mono ?_; rintro e w' ⟨rfl, hww⟩; replace hww := hww.symm; subst hww))
  clear mk22 hcon
  go_loopw [9, 24] (fun lf i wr => ∃ k : Nat, k ≤ len ∧ i = .int .i64 k ∧ lf = .int .i64 (leftAt T zs k) ∧ IRow 2 wr w.heap.size (laidBy (fillAt T zs) len k) ∧ Below w.heap.size w wr) (fun _ i _ => len - (intOf i).toNat)
  case atStart => exact ⟨0, by omega, rfl, rfl, by rw [laidBy_zero]; exact IRow.made 2 w len, (Below.refl _ _).alloc (Nat.le_refl _) _⟩
  case round =>
    obtain ⟨k, hk, rfl, rfl, r1, hb2⟩ := hrel
    by_cases hlt : k < len
    · obtain ⟨b, off, rfl, hblt, hc⟩ := hcells.out.resolve_left (by omega)
      have hcell : wr.cell? ⟨b, off + k, none⟩ = some (.int .i64 (zs.getD k 0)) := (hb2.cell (p := ⟨b, off + k, none⟩) hblt).trans (hc k hlt)
      obtain ⟨z0, z1⟩ := hz.out k
      obtain ⟨l0, l1⟩ := hleft.out k
      have z2 := hnn.out k
      have c1 := r1.cell (i := k) (by rw [laidBy_length]; exact hlt)
      have f1 := r1.free (i := k)
      have e1 := laidBy_set (fillAt T zs) len k hlt
      have e2 : leftAt T zs (k + 1) = leftAt T zs k - fillAt T zs k := rfl
      have e3 : fillAt T zs k = min (zs.getD k 0) (leftAt T zs k) := rfl
      rw [e3] at e1 e2
      clear e3
      generalize zs.getD k 0 = z at *
      generalize leftAt T zs k = lf at *
      have hkz : (k : Int) < (len : Int) := by omega
      replace r1 := Lib.hid r1
      replace e1 := Lib.hid e1
      replace e2 := Lib.hid e2
      replace hb2 := Lib.hid hb2
      clear hc
      go_wp2_with fail
      refine ⟨⟨k + 1, by omega, by go_num, by rw [e2.out], ?_, hb2.out.setCell (Nat.le_refl _) _⟩, by simp [intOf]; omega⟩
      rw [← e1.out]
      exact r1.out.set _
    · have hkn : k = len := by omega
      subst hkn
      rw [hlf.out] at r1
      go_wp2_with fail
      go_ret3
      refine ⟨hb2, w.heap.size, ?_, Nat.le_refl _, r1⟩
      rw [hl.out]
      rfl

theorem fill_any (T : Int) (p : Option Addr) (len cap : Nat) (zs : List Int) (w : World) (hT : Amt T) (hs : Seq64 w p len zs) :
    Calls Try.prog 12 #[.int .i64 T, .slice p len cap] w fun e w' => Below w.heap.size w w' ∧ FiOut T zs w w' e := by
  by_cases hc : chk T zs = 0
  · refine (fill_main T p len cap zs w hT hs hc).mono ?_
    rintro e' w' ⟨hb, hg⟩
    exact ⟨hb, Or.inr ⟨hc, hg⟩⟩
  · refine (fill_err T p len cap zs w hT hs hc).mono ?_
    rintro e' w' ⟨rfl, rfl⟩
    exact ⟨Below.refl _ _, Or.inl ⟨hc, rfl⟩⟩

theorem below_drawn (w : World) (n : Nat) : Below w.heap.size w (w.drewN n) := ⟨rfl, rfl, rfl, Nat.le_refl _, fun _ _ => rfl⟩

theorem list_eq_iff (xs ys : List Int) (h : xs.length = ys.length) : xs = ys ↔ ∀ i, i < xs.length → xs.getD i 0 = ys.getD i 0 := by
  constructor
  · rintro rfl i _; rfl
  · intro hall
    apply List.ext_getElem h
    intro i h1 h2
    have := hall i h1
    rwa [List.getD_eq_getElem?_getD, List.getD_eq_getElem?_getD, List.getElem?_eq_getElem h1, List.getElem?_eq_getElem h2] at this

set_option maxHeartbeats 2000000 in
set_option maxRecDepth 100000 in
theorem same_any (p1 p2 : Option Addr) (n1 c1 n2 c2 : Nat) (xs ys : List Int) (w : World) (h1 : Seq64 w p1 n1 xs) (h2 : Seq64 w p2 n2 ys) :
    Calls Try.prog 14 #[.slice p1 n1 c1, .slice p2 n2 c2] w fun e w' => e = .returned (.bool (decide (xs = ys))) ∧ Below w.heap.size w w' := by
  obtain ⟨hl1, hz1, hm1, hc1⟩ := h1
  obtain ⟨hl2, hz2, hm2, hc2⟩ := h2
  replace hl1 := Lib.hid hl1
  replace hl2 := Lib.hid hl2
  replace hz1 := Lib.hid hz1
  replace hz2 := Lib.hid hz2
  replace hc1 := Lib.hid hc1
  replace hc2 := Lib.hid hc2
  by_cases hlen : n1 = n2
  · subst hlen
    go_enter Try.func14, Try.ntmps14
    go_wp2_with fail
    go_loopw [5] (fun i wr => ∃ k : Nat, k ≤ n1 ∧ i = .int .i64 k ∧ (∀ j, j < k → xs.getD j 0 = ys.getD j 0) ∧ Below w.heap.size w wr) (fun i _ => n1 - (intOf i).toNat)
    case atStart => exact ⟨0, by omega, rfl, fun j hj => by omega, Below.refl _ _⟩
    case round =>
      obtain ⟨k, hk, rfl, hall, hbel⟩ := hrel
      replace hall := Lib.hid hall
      by_cases hlt : k < n1
      · obtain ⟨b1, o1, rfl, hb1, hd1⟩ := hc1.out.resolve_left (by omega)
        obtain ⟨b2, o2, rfl, hb2, hd2⟩ := hc2.out.resolve_left (by omega)
        have e1 : wr.cell? ⟨b1, o1 + k, none⟩ = some (.int .i64 (xs.getD k 0)) := (hbel.cell (p := ⟨b1, o1 + k, none⟩) hb1).trans (hd1 k hlt)
        have e2 : wr.cell? ⟨b2, o2 + k, none⟩ = some (.int .i64 (ys.getD k 0)) := (hbel.cell (p := ⟨b2, o2 + k, none⟩) hb2).trans (hd2 k hlt)
        have hkz : (k : Int) < (n1 : Int) := by omega
        generalize ha : xs.getD k 0 = a at *
        generalize hb : ys.getD k 0 = b at *
        replace ha := Lib.hid ha
        replace hb := Lib.hid hb
        replace hbel := Lib.hid hbel
        clear hd1 hd2
        go_wp2_with fail
        go_quiet (fail)
        clear e1 e2
        by_cases hab : a = b
        · subst hab
          go_wp2_with fail
          go_roundw
          case rel =>
            refine ⟨k + 1, by omega, by go_num, fun j hj => ?_, hbel.out.trans ((below_drawn wr nq).mono hbel.out.size)⟩
            by_cases hjk : j = k
            · subst hjk; rw [ha.out, hb.out]
            · exact hall.out j (by omega)
          case measure => simp [intOf]; omega
        · go_wp2_with fail
          go_ret
          refine ⟨?_, hbel.out.trans ((below_drawn wr nq).mono hbel.out.size)⟩
          have hne : ¬ xs = ys := by
            rintro rfl
            exact hab (ha.out.symm.trans hb.out)
          rw [decide_eq_false hne]
          rfl
      · go_wp2_with fail
        go_ret
        refine ⟨?_, hbel⟩
        have he : xs = ys := (list_eq_iff xs ys (by rw [hl1.out, hl2.out])).2 fun i hi => hall.out i (by rw [hl1.out] at hi; omega)
        rw [decide_eq_true he]
        rfl
  · have hlz : ¬ (n1 : Int) = (n2 : Int) := by omega
    go_enter Try.func14, Try.ntmps14
    go_wp2_with fail
    go_ret
    refine ⟨?_, Below.refl _ _⟩
    have hne : ¬ xs = ys := by
      rintro rfl
      exact hlen (hl1.out.symm.trans hl2.out)
    rw [decide_eq_false hne]
    rfl

end Go.Proofs.Ytdbjfginigekbaa
