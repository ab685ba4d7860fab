/- The program's sums are the reference's (plain).
  Are nets the same? PlanNets' walk.
  PlanNets' walk. -/
import Derived.Test.YthocnlalahknjaaGreatQXf
import Derived.Test.YthocnlalahknjaaGreatQVB
namespace Go.Proofs.YthocnlalahknjaaGreat.Dd
set_option linter.unusedVariables false

theorem sumL_perm {a b : List Int} (hp : a.Perm b) : sumL a = sumL b := by
  induction hp with
  | nil => rfl
  | cons x _ ih => show x + _ = x + _; rw [ih]
  | swap x y l => show y + (x + sumL l) = x + (y + sumL l); omega
  | trans _ _ i1 i2 => exact i1.trans i2
theorem stepD_add (m c : Nat) (N : Int) (d : Dl) : stepD m c N d = N + stepD m c 0 d := by
  unfold stepD
  simp only
  repeat' split
  all_goals omega
theorem fold_sum (m c : Nat) : ∀ (ds : List Dl) (N : Int), ds.foldl (stepD m c) N = N + sumL (ds.map (stepD m c 0))
  | [], N => by show N = N + 0; omega
  | d :: r, N => by
    rw [List.foldl_cons, fold_sum m c r, stepD_add]
    show _ = N + (stepD m c 0 d + sumL (r.map (stepD m c 0)))
    omega
theorem fold_filter (m c : Nat) : ∀ (l : List En) (N : Int), l.foldl (stepE m c) N = ((l.filter fun e => decide (e.st = 2)).map (·.d)).foldl (stepD m c) N
  | [], N => rfl
  | e :: r, N => by
    rw [List.foldl_cons, fold_filter m c r, List.filter_cons]
    by_cases h : e.st = 2
    · rw [if_pos (decide_eq_true h), List.map_cons, List.foldl_cons]
      unfold stepE; rw [if_pos h]
    · rw [if_neg (by simpa using h)]
      unfold stepE; rw [if_neg h]
theorem sumE_all (l : List En) (m c : Nat) : sumE l m c l.length = sumL (((l.filter fun e => decide (e.st = 2)).map (·.d)).map (stepD m c 0)) := by
  unfold sumE
  rw [List.take_length, fold_filter, fold_sum]; omega
theorem upd_sum (F : Nat → List Int) (i j : Nat) (x : Int) : sumL (updF F i (F i ++ [x]) j) = sumL (F j) + if j = i then x else 0 := by
  unfold updF
  by_cases h : j = i
  · subst h; rw [if_pos rfl, if_pos rfl, sumL_append]; show _ + (x + 0) = _; omega
  · rw [if_neg h, if_neg h]; omega
theorem pay1_sum (F : Nat → List Int) (a b c : Nat) (x : Int) (j : Nat) : sumL (pay1 F a b c x j) = sumL (F j) + (if j = a * 8 + c then -x else 0) + if j = b * 8 + c then x else 0 := by
  unfold pay1
  rw [upd_sum, upd_sum]
theorem payD_sum (F : Nat → List Int) (d : Dl) (hd : DlOk d) (m c : Nat) (hc : c < 8) : sumL (payD F d (m * 8 + c)) = stepD m c (sumL (F (m * 8 + c))) d := by
  obtain ⟨a0, a1, b0, b1, s0, s1, t0, t1, _⟩ := hd
  unfold payD
  rw [pay1_sum, pay1_sum]
  have e1 : (m * 8 + c = d.a.toNat * 8 + d.sc.toNat) ↔ (d.sc = c ∧ d.a = m) := by constructor <;> (intro h; omega)
  have e2 : (m * 8 + c = d.b.toNat * 8 + d.sc.toNat) ↔ (d.sc = c ∧ d.b = m) := by constructor <;> (intro h; omega)
  have e3 : (m * 8 + c = d.b.toNat * 8 + d.bc.toNat) ↔ (d.bc = c ∧ d.b = m) := by constructor <;> (intro h; omega)
  have e4 : (m * 8 + c = d.a.toNat * 8 + d.bc.toNat) ↔ (d.bc = c ∧ d.a = m) := by constructor <;> (intro h; omega)
  unfold stepD
  simp only [e1, e2, e3, e4, decide_eq_true_eq]
  repeat' split
  all_goals omega
theorem flows_sum (m c : Nat) (hc : c < 8) : ∀ (ds : List Dl), (∀ d ∈ ds, DlOk d) → sumL (flowsL ds (m * 8 + c)) = sumL (ds.map (stepD m c 0)) := by
  have key : ∀ (ds : List Dl) (F : Nat → List Int), (∀ d ∈ ds, DlOk d) → sumL (ds.foldl payD F (m * 8 + c)) = sumL (F (m * 8 + c)) + sumL (ds.map (stepD m c 0)) := by
    intro ds
    induction ds with
    | nil => intro F _; show _ = _ + 0; exact (Int.add_zero _).symm
    | cons d r ih =>
      intro F h
      rw [List.foldl_cons, ih _ (fun x hx => h x (by simp [hx])), payD_sum F d (h d (by simp)) m c hc, stepD_add]
      show _ = _ + (stepD m c 0 d + sumL (r.map (stepD m c 0)))
      omega
  intro ds h
  have := key ds (fun _ => []) h
  unfold flowsL
  rw [this]
  show 0 + _ = _
  omega
theorem deal_is {b : Bk} (h : b.Ok) {e : En} (he : e ∈ b.l) : (b.deal e.d.id).1 = e.d := by
  unfold Bk.deal
  cases ha : atL b.l e.d.id with
  | none => exact absurd rfl (atL_none ha e he)
  | some i =>
    obtain ⟨hi, hid⟩ := atL_some ha
    show (b.l.getD i default).d = e.d
    rw [getD_is hi]
    obtain ⟨j, hj, rfl⟩ := List.mem_iff_getElem.1 he
    have hnd := h.ids
    unfold List.Nodup at hnd
    rw [List.pairwise_map] at hnd
    rcases Nat.lt_trichotomy i j with hlt | heq | hgt
    · exact absurd hid (List.pairwise_iff_getElem.1 hnd i j hi hj hlt)
    · subst heq; rfl
    · exact absurd hid.symm (List.pairwise_iff_getElem.1 hnd j i hj hi hgt)
theorem matched_perm {b : Bk} (h : b.Ok) : (matchedD b).Perm ((b.l.filter fun e => decide (e.st = 2)).map (·.d)) := by
  unfold matchedD Bk.all
  simp only [if_true, List.map_map]
  have h1 : (lowest (b.l.filter fun e => decide (e.st = 2))).Perm (b.l.filter fun e => decide (e.st = 2)) := by unfold lowest; exact List.mergeSort_perm _ _
  refine (h1.map _).trans ?_
  refine List.Perm.of_eq (List.map_congr_left fun e he => ?_)
  exact deal_is h (List.mem_filter.1 he).1
section
variable {b : Bk} (h : b.Ok) (hm : b.mem = 16) (hc : b.cur = 8)
include h hm hc
omit hm hc in
theorem ens_ok : EnsOk b.l := fun e he hst => by
  obtain ⟨h1, h2, _⟩ := h.may e he
  rw [mayB_iff] at h1
  have hs := h2.s
  have ht := h2.t
  unfold In64 at hs ht
  omega
omit hm hc in
theorem any_out (nm nc : Int) : (matchedD b).any (fun d => outD d nm nc) = true ↔ ∃ e ∈ b.l, outE e nm nc := by
  rw [List.any_eq_true]
  have hout : ∀ d : Dl, outD d nm nc = true ↔ (nm ≤ d.a ∨ nm ≤ d.b ∨ nc ≤ d.sc ∨ nc ≤ d.bc) := fun d => by
    unfold outD
    simp only [Bool.or_eq_true, decide_eq_true_eq]
    omega
  constructor
  · rintro ⟨d, hd, ho⟩
    obtain ⟨e, he, rfl⟩ := List.mem_map.1 ((matched_perm h).mem_iff.1 hd)
    obtain ⟨he1, he2⟩ := List.mem_filter.1 he
    exact ⟨e, he1, of_decide_eq_true he2, (hout _).1 ho⟩
  · rintro ⟨e, he, hst, ho⟩
    exact ⟨e.d, (matched_perm h).mem_iff.2 (List.mem_map.2 ⟨e, List.mem_filter.2 ⟨he, decide_eq_true hst⟩, rfl⟩), (hout _).2 ho⟩
theorem sums_same (m c : Nat) (hc8 : c < 8) : sumL (flowsL (matchedD b) (m * 8 + c)) = sumE b.l m c b.l.length := by
  rw [flows_sum m c hc8 _ (matched_ok h hm hc), sumE_all]
  exact sumL_perm ((matched_perm h).map _)
theorem over_same {nm nc : Nat} (hnc : nc ≤ 8) : overF (flowsL (matchedD b)) nm nc = true ↔ ∃ m c, m < nm ∧ c < nc ∧ ¬ Amt (sumE b.l m c b.l.length) := by
  unfold overF
  rw [List.any_eq_true]
  constructor
  · rintro ⟨m, hmm, h1⟩
    rw [List.any_eq_true] at h1
    obtain ⟨c, hcc, h2⟩ := h1
    rw [List.mem_range] at hmm hcc
    refine ⟨m, c, hmm, hcc, ?_⟩
    rw [sums_same h hm hc m c (by omega)] at h2
    intro hA
    rw [fitB_iff.2 hA] at h2
    exact absurd h2 (by decide)
  · rintro ⟨m, c, hmm, hcc, hA⟩
    refine ⟨m, List.mem_range.2 hmm, List.any_eq_true.2 ⟨c, List.mem_range.2 hcc, ?_⟩⟩
    rw [sums_same h hm hc m c (by omega)]
    rw [← fitB_iff] at hA
    simpa using hA
theorem nets_same {nm nc : Nat} (hnc : nc ≤ 8) : netsL (flowsL (matchedD b)) nm nc = (List.range nm).map (rowE b.l nc) := by
  unfold netsL
  refine List.map_congr_left fun m _ => ?_
  unfold netRow rowE
  refine List.map_congr_left fun c hcm => ?_
  rw [List.mem_range] at hcm
  exact sums_same h hm hc m c (by omega)
end
end Go.Proofs.YthocnlalahknjaaGreat.Dd
namespace Go.Proofs.YthocnlalahknjaaGreat.Dd
open Go.RowKit Go.Maps
set_option linter.unusedVariables false
set_option maxHeartbeats 2000000 in
set_option maxRecDepth 100000 in
theorem same11_any (u v : Value) (r1 r2 : List (List Int)) (w : World) (h1 : NSeq w u r1) (h2 : NSeq w v r2) (hl : r1.length ≤ 1000000) (hl2 : r2.length ≤ 1000000) :
    Calls Tryz.prog 11 #[u, v] w fun e w' => e = .returned (.bool (decide (r1 = r2))) ∧ Below w.heap.size w w' := by
  obtain ⟨a1, c1, rfl, hd1⟩ := h1
  obtain ⟨a2, c2, rfl, hd2⟩ := h2
  obtain ⟨R, hR⟩ : ∃ R, R = decide (r1 = r2) := ⟨_, rfl⟩
  rw [← hR]
  obtain ⟨n1, hn1⟩ : ∃ n, n = r1.length := ⟨_, rfl⟩
  obtain ⟨n2, hn2⟩ : ∃ n, n = r2.length := ⟨_, rfl⟩
  rw [← hn1] at hl ⊢
  rw [← hn2] at hl2 ⊢
  by_cases hlen : n1 = n2
  · subst hlen
    have hno : Hid (∀ k (hk : k < r1.length) (hk2 : k < r2.length), r1[k] ≠ r2[k] → R = false) := Lib.hid fun k hk hk2 hne => by
      rw [hR, decide_eq_false_iff_not]; rintro rfl; exact hne rfl
    have hyes : Hid ((∀ k (hk : k < r1.length) (hk2 : k < r2.length), r1[k] = r2[k]) → R = true) := Lib.hid fun hall => by
      rw [hR, decide_eq_true_eq]; exact List.ext_getElem (by omega) fun i h1 h2 => hall i h1 h2
    replace hR := Lib.hid hR
    replace hn1 := Lib.hid hn1
    replace hn2 := Lib.hid hn2
    replace hd1 := Lib.hid hd1
    replace hd2 := Lib.hid hd2
    go_enter Tryz.func11, Tryz.ntmps11
    go_wp2_with fail
    go_loopw [13] (fun i wr => ∃ k : Nat, k ≤ n1 ∧ i = .int .i64 (k : Int) ∧ Hid (∀ j (hj : j < r1.length) (hj2 : j < r2.length), j < k → r1[j] = r2[j]) ∧ Hid (Below w.heap.size w wr)) (fun i _ => n1 - (intOf i).toNat)
    case atStart => exact ⟨0, by omega, rfl, Lib.hid (fun j _ _ h => by omega), Lib.hid (Below.refl _ _)⟩
    case round =>
      obtain ⟨k, hk, rfl, hA, hS⟩ := hrel
      by_cases hkn : k < n1
      · have hk1 : k < r1.length := by have := hn1.out; omega
        have hk2 : k < r2.length := by have := hn2.out; omega
        have zk : (k : Int) < (n1 : Int) := by omega
        obtain ⟨b1, o1, rfl, l1, all1⟩ := hd1.out.resolve_left (by rintro rfl; simp at hk1)
        obtain ⟨b2, o2, rfl, l2, all2⟩ := hd2.out.resolve_left (by rintro rfl; simp at hk2)
        obtain ⟨p1, d1, x1, s1⟩ := all1 k hk1
        obtain ⟨p2, d2, x2, s2⟩ := all2 k hk2
        have y1 := (hS.out.cell (p := ⟨b1, o1 + k, none⟩) l1).trans x1
        have y2 := (hS.out.cell (p := ⟨b2, o2 + k, none⟩) l2).trans x2
        have hno2 := hno.out k hk1 hk2
        have hnx : Hid (r1[k] = r2[k] → ∀ j (hj : j < r1.length) (hj2 : j < r2.length), j < k + 1 → r1[j] = r2[j]) := Lib.hid fun e j hj hj2 hjk => by
          by_cases ek : j = k
          · subst ek; exact e
          · exact hA.out j hj hj2 (by omega)
        have hsm := Lib.hid fun (W : World) (hb : Below w.heap.size w W) => YthocnlalahknjaaGreat.same_any p1 p2 _ d1 _ d2 r1[k] r2[k] W (s1.kept hb) (s2.kept hb)
        have g1 : b1 < wr.heap.size := Nat.lt_of_lt_of_le l1 hS.out.size
        have g2 : b2 < wr.heap.size := Nat.lt_of_lt_of_le l2 hS.out.size
        have hSd : Hid (Below w.heap.size w wr.drew) := Lib.hid hS.out.drew
        clear all1 all2 x1 x2 s1 s2
        generalize r1[k] = q1 at *
        generalize r2[k] = q2 at *
        by_cases hq : q1 = q2
        · have hx := Lib.hid (hnx.out hq)
          rw [decide_eq_true hq] at hsm
          replace hq := Lib.hid hq
          replace hno2 := True.intro
          go_upto_region 6 with fail
          go_region_with (go_at_call 22; (with_reducible refine (hsm.out _ hSd.out).mono ?_); rintro e w5 ⟨rfl, hb5⟩; replace hb5 : Hid (Below w.heap.size w w5) := Lib.hid (hSd.out.trans (hb5.mono hSd.out.size)))
          all_goals
            go_wp2_with fail
            go_roundw
            case rel => exact ⟨k + 1, by omega, by go_num, hx, hb5⟩
            case measure => simp [intOf]; omega
        · have hRf := hno2 hq
          rw [decide_eq_false hq] at hsm
          replace hRf := Lib.hid hRf
          replace hno2 := True.intro
          go_upto_region 6 with fail
          go_region_with (go_at_call 22; (with_reducible refine (hsm.out _ hSd.out).mono ?_); rintro e w5 ⟨rfl, hb5⟩; replace hb5 : Hid (Below w.heap.size w w5) := Lib.hid (hSd.out.trans (hb5.mono hSd.out.size)))
          all_goals
            go_wp2_with fail
            go_ret
            exact ⟨by rw [hRf.out]; rfl, hb5.out⟩
      · obtain rfl : k = n1 := by omega
        have zk : ¬ (k : Int) < (k : Int) := by omega
        have hRt : R = true := hyes.out fun j hj hj2 => hA.out j hj hj2 (by have := hn1.out; omega)
        replace hRt := Lib.hid hRt
        go_wp2_with fail
        go_ret
        exact ⟨by rw [hRt.out]; rfl, hS.out⟩
  · have z : ((n1 : Int) == (n2 : Int)) = false := by simp; omega
    have z2 : ¬ (n1 : Int) = (n2 : Int) := by omega
    have hRf : R = false := by rw [hR, decide_eq_false_iff_not]; rintro rfl; exact hlen (by rw [hn1, hn2])
    replace hRf := Lib.hid hRf
    replace hR := Lib.hid hR
    replace hn1 := Lib.hid hn1
    replace hn2 := Lib.hid hn2
    go_enter Tryz.func11, Tryz.ntmps11
    go_wp2_with fail
    go_ret
    exact ⟨by rw [hRf.out]; rfl, Below.refl _ _⟩
end Go.Proofs.YthocnlalahknjaaGreat.Dd
namespace Go.Proofs.YthocnlalahknjaaGreat.Dd
open Go.RowKit Go.Maps
set_option linter.unusedVariables false

theorem nseq_nil (w : World) : NSeq w (.slice none 0 0) [] := ⟨none, 0, rfl, .inl rfl⟩
/-- both hand back the same nets, or the same error -/
theorem net_both (ds : List Dl) (hin : ∀ d ∈ ds, d.In) (hl : ds.length ≤ 60) (nm nc : Int) : ∃ (X : List (List Int)) (E : Int), X.length ≤ 16 ∧
    (∀ (G : Nat → Prop) (W : World) (gb rb : Nat), Apart G (BX gb (subS bkE ds)) (RX' rb (subS bkE ds)) W → Calls Tryz.prog 9 #[.pointer (some ⟨gb, 0, none⟩), .int .i64 nm, .int .i64 nc] W fun e w' => Below W.heap.size W w' ∧ ∃ u, e = .returned (.tuple #[u, .int .i64 E]) ∧ NSeq w' u X) ∧
    (∀ (W : World) (rb : Nat) (P : Nat → Prop) (v : Value), RBv P W rb (subS bkE ds) v → Calls Tryz.prog 10 #[.pointer (some ⟨rb, 0, none⟩), .int .i64 nm, .int .i64 nc] W fun e w' => Below W.heap.size W w' ∧ ∃ u, e = .returned (.tuple #[u, .int .i64 E]) ∧ NSeq w' u X) := by
  have hok := subS_ok ds bkE bkE_ok hin
  have hg := subS_grow ds bkE
  have hm : (subS bkE ds).mem = 16 := hg.2.2.1
  have hc : (subS bkE ds).cur = 8 := hg.2.2.2
  have h9 := fun G W gb rb (hA : Apart G (BX gb (subS bkE ds)) (RX' rb (subS bkE ds)) W) => net_book hA hin hl nm nc
  have h10 := fun W rb P v (hR : RBv P W rb (subS bkE ds) v) => rnet_any rb nm nc _ P v W hR hok.len (ens_ok hok)
  have ho := any_out hok nm nc
  have hov := fun (n m : Nat) (h : m ≤ 8) => over_same hok hm hc (nm := n) h
  have hns := fun (n m : Nat) (h : m ≤ 8) => nets_same hok hm hc (nm := n) h
  generalize subS bkE ds = bk at *
  by_cases hN : okN nm nc
  · have hN2 := hN
    unfold okN at hN2
    by_cases hO : ∃ e ∈ bk.l, outE e nm nc
    · refine ⟨[], 1, by simp, fun G W gb rb hA => (h9 G W gb rb hA).mono fun e w' ⟨hb, hx⟩ => ⟨hb, ?_⟩, fun W rb P v hR => (h10 W rb P v hR).mono fun e w' ⟨hb, hx⟩ => ⟨hb, ?_⟩⟩
      · rcases hx with ⟨_, rfl⟩ | ⟨_, _, _, _, _, rfl⟩ | ⟨_, _, _, _, hf, _⟩ | ⟨_, _, _, _, hf, _⟩
        · exact ⟨_, rfl, nseq_nil _⟩
        · exact ⟨_, rfl, nseq_nil _⟩
        · rw [ho.2 hO] at hf; cases hf
        · rw [ho.2 hO] at hf; cases hf
      · rcases hx with ⟨_, rfl⟩ | ⟨_, _, rfl⟩ | ⟨_, hf, _⟩ | ⟨_, hf, _⟩
        · exact ⟨_, rfl, nseq_nil _⟩
        · exact ⟨_, rfl, nseq_nil _⟩
        · obtain ⟨e, he, h⟩ := hO; exact absurd h (hf e he)
        · obtain ⟨e, he, h⟩ := hO; exact absurd h (hf e he)
    · have hof : bk.l = bk.l ∧ (matchedD bk).any (fun d => outD d nm nc) = false := ⟨rfl, by rw [← Bool.not_eq_true]; exact fun e => hO (ho.1 e)⟩
      by_cases hV : ∃ m c, m < nm.toNat ∧ c < nc.toNat ∧ ¬ Amt (sumE bk.l m c bk.l.length)
      · refine ⟨[], 3, by simp, fun G W gb rb hA => (h9 G W gb rb hA).mono fun e w' ⟨hb, hx⟩ => ⟨hb, ?_⟩, fun W rb P v hR => (h10 W rb P v hR).mono fun e w' ⟨hb, hx⟩ => ⟨hb, ?_⟩⟩
        · rcases hx with ⟨hf, rfl⟩ | ⟨_, _, _, _, hf, rfl⟩ | ⟨_, _, _, _, _, _, rfl⟩ | ⟨_, _, _, _, _, hf, _⟩
          · omega
          · rw [hof.2] at hf; cases hf
          · exact ⟨_, rfl, nseq_nil _⟩
          · rw [(hov _ _ (by omega)).2 hV] at hf; cases hf
        · rcases hx with ⟨hf, rfl⟩ | ⟨_, hf, rfl⟩ | ⟨_, _, _, rfl⟩ | ⟨_, _, hf, _⟩
          · exact absurd hN hf
          · exact absurd hf hO
          · exact ⟨_, rfl, nseq_nil _⟩
          · obtain ⟨m, c, h1, h2, h3⟩ := hV; exact absurd (hf m c h1 h2) h3
      · refine ⟨(List.range nm.toNat).map (rowE bk.l nc.toNat), 0, by simp; omega, fun G W gb rb hA => (h9 G W gb rb hA).mono fun e w' ⟨hb, hx⟩ => ⟨hb, ?_⟩, fun W rb P v hR => (h10 W rb P v hR).mono fun e w' ⟨hb, hx⟩ => ⟨hb, ?_⟩⟩
        · rcases hx with ⟨hf, rfl⟩ | ⟨_, _, _, _, hf, rfl⟩ | ⟨_, _, _, _, _, hf, rfl⟩ | ⟨_, _, _, _, _, _, u, rfl, hU⟩
          · omega
          · rw [hof.2] at hf; cases hf
          · exact absurd ((hov _ _ (by omega)).1 hf) hV
          · rw [hns _ _ (by omega)] at hU; exact ⟨u, rfl, hU⟩
        · rcases hx with ⟨hf, rfl⟩ | ⟨_, hf, rfl⟩ | ⟨_, _, hf, rfl⟩ | ⟨_, _, _, u, rfl, hU⟩
          · exact absurd hN hf
          · exact absurd hf hO
          · exact absurd hf hV
          · exact ⟨u, rfl, hU⟩
  · have hN2 := hN
    unfold okN at hN2
    refine ⟨[], 1, by simp, fun G W gb rb hA => (h9 G W gb rb hA).mono fun e w' ⟨hb, hx⟩ => ⟨hb, ?_⟩, fun W rb P v hR => (h10 W rb P v hR).mono fun e w' ⟨hb, hx⟩ => ⟨hb, ?_⟩⟩
    · rcases hx with ⟨_, rfl⟩ | ⟨h1, h2, h3, h4, _⟩ | ⟨h1, h2, h3, h4, _⟩ | ⟨h1, h2, h3, h4, _⟩
      · exact ⟨_, rfl, nseq_nil _⟩
      all_goals exact absurd ⟨h1, h2, h3, h4⟩ hN2
    · rcases hx with ⟨_, rfl⟩ | ⟨h, _⟩ | ⟨h, _⟩ | ⟨h, _⟩
      · exact ⟨_, rfl, nseq_nil _⟩
      all_goals exact absurd h hN

set_option maxHeartbeats 4000000 in
set_option maxRecDepth 100000 in
theorem planNets_any (p : Option Addr) (len cap : Nat) (ds : List Dl) (nm nc : Int) (w : World) (h : DlRow w p len ds ∧ len ≤ 4611686018427387904) :
    Calls Tryz.prog 3 #[.slice p len cap, .int .i64 nm, .int .i64 nc] w fun e w' => e = .returned (.bool true) ∧ Below w.heap.size w w' := by
  obtain ⟨h, hlen⟩ := h
  have haw := awake_any w
  by_cases h60 : 60 < len
  · have z : (60 : Int) < (len : Int) := by omega
    go_enter Tryz.func3, Tryz.ntmps3
    go_wp2_with (go_at_call 7; (with_reducible refine haw.mono ?_); rintro e w1 ⟨rfl, hb1⟩; replace hb1 := Lib.hid hb1)
    go_ret
    exact ⟨rfl, hb1.out⟩
  · have z : ¬ (60 : Int) < (len : Int) := by omega
    have hin := h.2.1
    have hl := h.1
    have hbk := fun W (hb : Below w.heap.size w W) => books_any p len cap ds W (h.kept hb) (by omega)
    obtain ⟨X, E, hX, h9, h10⟩ := net_both ds hin (by omega) nm nc
    have h10' := fun (W W2 : World) (G : Nat → Prop) (gb rb : Nat) (hA : Apart G (BX gb (subS bkE ds)) (RX' rb (subS bkE ds)) W) (hb : Below W.heap.size W W2) => (by
      obtain ⟨PF, RF, _, ⟨v, hv⟩, _⟩ := hA
      exact h10 W2 rb RF v (hv.bel hb) : Calls Tryz.prog 10 #[.pointer (some ⟨rb, 0, none⟩), .int .i64 nm, .int .i64 nc] W2 fun e w' => Below W2.heap.size W2 w' ∧ ∃ u, e = .returned (.tuple #[u, .int .i64 E]) ∧ NSeq w' u X)
    have h11 := fun (u v : Value) (W : World) (hu : NSeq W u X) (hv : NSeq W v X) => same11_any u v X X W hu hv (by omega) (by omega)
    rw [decide_eq_true rfl] at h11
    replace haw := Lib.hid haw
    replace hbk := Lib.hid hbk
    replace h9 := Lib.hid h9
    replace h10' := Lib.hid h10'
    replace h11 := Lib.hid h11
    clear h h10 hin hl h60 hX
    go_enter Tryz.func3, Tryz.ntmps3
    go_wp2_with (first
      | (go_at_call 7; (with_reducible refine haw.out.mono ?_); rintro e w1 ⟨rfl, hb1⟩; replace hb1 := Lib.hid hb1)
      | (go_at_call 8; (with_reducible refine (hbk.out w1 hb1.out).mono ?_); rintro e w2 ⟨gb, rb, rfl, hA, hb2⟩; replace hA := Lib.hid hA; replace hb2 : Hid (Below w.heap.size w w2) := Lib.hid (hb1.out.trans (hb2.mono hb1.out.size)))
      | (go_at_call 9; (with_reducible refine (h9.out _ w2 gb rb hA.out).mono ?_); rintro e w3 ⟨hb3, u3, rfl, hN3⟩; replace hN3 := Lib.hid hN3; replace hb3 := Lib.hid hb3)
      | (go_at_call 10; (with_reducible refine (h10'.out w2 w3 _ gb rb hA.out hb3.out).mono ?_); rintro e w4 ⟨hb4, u4, rfl, hN4⟩; replace hN3 := Lib.hid (hN3.out.kept hb4); replace hN4 := Lib.hid hN4; replace hb4 : Hid (Below w.heap.size w w4) := Lib.hid ((hb2.out.trans (hb3.out.mono hb2.out.size)).trans (hb4.mono (Nat.le_trans hb2.out.size hb3.out.size))))
      | (go_at_call 11; (with_reducible refine (h11.out u3 u4 w4 hN3.out hN4.out).mono ?_); rintro e w5 ⟨rfl, hb5⟩; replace hb5 : Hid (Below w.heap.size w w5) := Lib.hid (hb4.out.trans (hb5.mono hb4.out.size))))
    go_ret
    exact ⟨rfl, hb5.out⟩
end Go.Proofs.YthocnlalahknjaaGreat.Dd
