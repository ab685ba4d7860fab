/- What awake asks of Net, Schedule and Behind.
  awake: the calls whose answers the document fixes. -/
import Derived.Test.YthocnlalahknjaaGreatQPgg
namespace Go.Proofs.YthocnlalahknjaaGreat.Dd
open Go.RowKit Go.Maps
set_option linter.unusedVariables false

/-- dues of one order are one list, where ticks, members and currencies tell them apart -/
theorem order_eq {L M : List Du} (hp : L.Perm M) (hL : InOrder byTk L) (hM : InOrder byTk M) (hk : ∀ x ∈ M, ∀ y ∈ M, x.t = y.t → x.m = y.m → x.c = y.c → x = y) : L = M := by
  refine List.Perm.eq_of_pairwise (le := fun a b : Du => ¬ byTk b a < 0) (fun a b ha hb h1 h2 => ?_) hL hM hp
  rw [byTk_neg, byAcc_neg] at h1 h2
  exact hk a (hp.mem_iff.1 ha) b hb (by omega) (by omega) (by omega)
def L3 : List Du := [⟨0, 0, 5, 4⟩, ⟨0, 0, 9, 3⟩, ⟨0, 0, 12, 3⟩]
theorem ev10 : shares 10 [1, 1, 1] = [4, 3, 3] := by decide +kernel
theorem all3 : allD [5, 9, 12] [[-10]] 1 = L3 := by
  unfold allD rowD L3
  simp [duesOf, duesUp, dueAt, ev10, List.range_succ, List.replicate_succ]
theorem seq_new (W W' : World) (g n : Nat) (zs : List Int) (h : W.heap[g]? = some (.cells (zs.map (Value.int .i64)).toArray 3 (0, 0))) (hn : n = zs.length) (hz : ∀ i, Amt (zs.getD i 0)) (hl : n ≤ 1000) : Seq64 W (some ⟨g, 0, none⟩) n zs :=
  ⟨hn.symm, hz, by omega, .inr ⟨g, 0, rfl, obj_lt h, fun i hi => by
    rw [Nat.zero_add]
    refine obj_cell h ?_
    simp only [List.getElem?_toArray, List.getElem?_map]
    rw [List.getD_eq_getElem?_getD, List.getElem?_eq_getElem (by omega)]; rfl⟩⟩
theorem seq_new2 (W : World) (g n : Nat) (zs : List Int) (T : Nat) (h : W.heap[g]? = some (.cells (zs.map (Value.int .i64)).toArray T (0, 0))) (hn : n = zs.length) (hz : ∀ i, Amt (zs.getD i 0)) (hl : n ≤ 1000) : Seq64 W (some ⟨g, 0, none⟩) n zs :=
  ⟨hn.symm, hz, by omega, .inr ⟨g, 0, rfl, obj_lt h, fun i hi => by
    rw [Nat.zero_add]
    refine obj_cell h ?_
    simp only [List.getElem?_toArray, List.getElem?_map]
    rw [List.getD_eq_getElem?_getD, List.getElem?_eq_getElem (by omega)]; rfl⟩⟩
theorem amt_all {zs : List Int} (h : ∀ z ∈ zs, Amt z) (i : Nat) : Amt (zs.getD i 0) := by
  rw [List.getD_eq_getElem?_getD]
  cases hi : zs[i]? with
  | none => exact ⟨by decide, by decide⟩
  | some x => exact h x (List.mem_of_getElem? hi)
/-- one row of one amount, built anew -/
theorem nseq_one (W : World) (x : Int) (hx : Amt x) : NSeq ((W.alloc (.cells #[.int .i64 x] 2)).alloc (.cells #[.slice (some ⟨W.heap.size, 0, none⟩) 1 1] 50)) (.slice (some ⟨W.heap.size + 1, 0, none⟩) 1 1) [[x]] := by
  refine ⟨_, 1, rfl, .inr ⟨W.heap.size + 1, 0, rfl, by simp, fun i hi => ?_⟩⟩
  have h0 : i = 0 := by simpa using hi
  subst h0
  refine ⟨some ⟨W.heap.size, 0, none⟩, 1, obj_cell (new_two W _ _) rfl, ?_⟩
  exact seq_new2 _ W.heap.size 1 [x] 2 ((Below.heap_alloc _ _ _ (by simp)).trans (heap_alloc_new W _)) rfl (amt_all fun z hz => by obtain rfl := List.mem_singleton.1 hz; exact hx) (by omega)
theorem awake_sch (W : World) : Calls Tryz.prog 13 #[.slice (some ⟨W.heap.size + 1, 0, none⟩) 1 1, .slice (some ⟨W.heap.size + 1 + 1, 0, none⟩) 3 3] (((W.alloc (.cells #[.int .i64 (-10)] 2)).alloc (.cells #[.slice (some ⟨W.heap.size, 0, none⟩) 1 1] 50)).alloc (.cells #[.int .i64 5, .int .i64 9, .int .i64 12] 3)) fun e w' =>
    ∃ v, e = .returned (.tuple #[v, .int .i64 0]) ∧ USeq w' v L3 ∧ Below W.heap.size W w' := by
  have h1 := nseq_one W (-10) ⟨by decide, by decide⟩
  generalize hW1 : (W.alloc (.cells #[.int .i64 (-10)] 2)).alloc (.cells #[.slice (some ⟨W.heap.size, 0, none⟩) 1 1] 50) = W1 at *
  have hs1 : W1.heap.size = W.heap.size + 1 + 1 := by rw [← hW1]; simp
  have hb1 : Below W.heap.size W W1 := by rw [← hW1]; exact ((Below.refl _ _).alloc (Nat.le_refl _) _).alloc (by simp) _
  have hb2 : Below W1.heap.size W1 (W1.alloc (.cells #[.int .i64 5, .int .i64 9, .int .i64 12] 3)) := (Below.refl _ _).alloc (Nat.le_refl _) _
  have h2 : Seq64 (W1.alloc (.cells #[.int .i64 5, .int .i64 9, .int .i64 12] 3)) (some ⟨W1.heap.size, 0, none⟩) 3 [5, 9, 12] := seq_new2 _ W1.heap.size 3 [5, 9, 12] 3 (heap_alloc_new W1 _) rfl (amt_all fun z hz => by simp at hz; rcases hz with rfl | rfl | rfl <;> exact ⟨by decide, by decide⟩) (by omega)
  rw [hs1] at h2
  refine (schedule_any _ [[-10]] _ 3 3 [5, 9, 12] _ (h1.kept hb2) h2 (by decide) (fun r hr => by obtain rfl := List.mem_singleton.1 hr; decide)).mono ?_
  rintro e w' ⟨hb, ⟨hm, _⟩ | ⟨_, hm, _⟩ | ⟨_, _, hm, _⟩ | ⟨_, _, _, u, L, rfl, hp, ho, hU⟩⟩
  · exact absurd hm (by decide)
  · exact absurd hm (by decide)
  · exact absurd hm (by decide)
  · have hp2 : L.Perm L3 := by rw [← all3]; exact hp
    have e1 : L = L3 := order_eq hp2 ho (by unfold InOrder L3; decide) (by unfold L3; decide)
    rw [e1] at hU
    exact ⟨u, rfl, hU, hb1.trans (hb2.trans (hb.mono hb2.size) |>.mono hb1.size)⟩
theorem awake_sch2 (W : World) : Calls Tryz.prog 13 #[.slice none 0 0, .slice (some ⟨W.heap.size, 0, none⟩) 2 2] (W.alloc (.cells #[.int .i64 5, .int .i64 5] 3)) fun e w' =>
    e = .returned (.tuple #[.slice none 0 0, .int .i64 1]) ∧ Below W.heap.size W w' := by
  have hb2 : Below W.heap.size W (W.alloc (.cells #[.int .i64 5, .int .i64 5] 3)) := (Below.refl _ _).alloc (Nat.le_refl _) _
  have h2 : Seq64 (W.alloc (.cells #[.int .i64 5, .int .i64 5] 3)) (some ⟨W.heap.size, 0, none⟩) 2 [5, 5] := seq_new2 _ W.heap.size 2 [5, 5] 3 (heap_alloc_new W _) rfl (amt_all fun z hz => by simp at hz; subst hz; exact ⟨by decide, by decide⟩) (by omega)
  refine (schedule_any _ [] _ 2 2 [5, 5] _ ⟨none, 0, rfl, .inl rfl⟩ h2 (by decide) (fun r hr => by cases hr)).mono ?_
  rintro e w' ⟨hb, ⟨hm, rfl⟩ | ⟨hm, _⟩ | ⟨hm, _⟩ | ⟨hm, _⟩⟩
  · exact ⟨rfl, hb2.trans (hb.mono hb2.size)⟩
  · exact absurd hm (by decide)
  · exact absurd hm (by decide)
  · exact absurd hm (by decide)
theorem beh_two : ∀ L : List Du, L.Perm (ofNow L3 9) → behL [[5]] 9 L.length L = some [⟨0, 0, 9, 2⟩] := by
  intro L hp
  have e : ofNow L3 9 = [⟨0, 0, 5, 4⟩, ⟨0, 0, 9, 3⟩] := by decide
  rw [e] at hp
  have hl := hp.length_eq
  match L, hl with
  | [x, y], _ =>
    have hx := hp.mem_iff.1 (List.mem_cons_self (a := x) (l := [y]))
    have hy := hp.mem_iff.1 (List.mem_cons_of_mem x (List.mem_cons_self (a := y) (l := [])))
    have ha := hp.mem_iff.2 (List.mem_cons_self (a := (⟨0, 0, 5, 4⟩ : Du)) (l := [⟨0, 0, 9, 3⟩]))
    have hb := hp.mem_iff.2 (List.mem_cons_of_mem (⟨0, 0, 5, 4⟩ : Du) (List.mem_cons_self (a := (⟨0, 0, 9, 3⟩ : Du)) (l := [])))
    simp only [List.mem_cons, List.not_mem_nil, or_false] at hx hy ha hb
    rcases hx with rfl | rfl <;> rcases hy with rfl | rfl
    · revert hb; decide
    · decide
    · decide
    · revert ha; decide
theorem awake_beh (W : World) (v : Value) (h : USeq W v L3) : Calls Tryz.prog 15 #[v, .slice (some ⟨W.heap.size + 1, 0, none⟩) 1 1, .int .i64 9] ((W.alloc (.cells #[.int .i64 5] 2)).alloc (.cells #[.slice (some ⟨W.heap.size, 0, none⟩) 1 1] 50)) fun e w' =>
    ∃ u, e = .returned (.tuple #[u, .int .i64 0]) ∧ USeq w' u [⟨0, 0, 9, 2⟩] ∧ Below W.heap.size W w' := by
  have h1 := nseq_one W 5 ⟨by decide, by decide⟩
  have hb1 : Below W.heap.size W ((W.alloc (.cells #[.int .i64 5] 2)).alloc (.cells #[.slice (some ⟨W.heap.size, 0, none⟩) 1 1] 50)) := ((Below.refl _ _).alloc (Nat.le_refl _) _).alloc (by simp) _
  refine (behind_any v _ L3 [[5]] 9 _ (h.kept hb1) (by decide) (by unfold L3 DuIn In64; decide) h1 (by decide)).mono ?_
  rintro e w' ⟨hb, ⟨hm, _⟩ | ⟨_, hm, _⟩ | ⟨_, _, L, hp, _, ⟨out, u, ho, rfl, hU⟩ | ⟨ho, _⟩⟩⟩
  · exact absurd hm (by decide)
  · exact absurd hm (by decide)
  · rw [beh_two L hp] at ho
    injection ho with ho
    subst ho
    exact ⟨u, rfl, hU.seq, hb1.trans (hb.mono hb1.size)⟩
  · rw [beh_two L hp] at ho; cases ho
end Go.Proofs.YthocnlalahknjaaGreat.Dd
namespace Go.Proofs.YthocnlalahknjaaGreat.Dd
open Go.RowKit Go.Maps
set_option linter.unusedVariables false

def dA : Dl := ⟨7, 0, 1, 0, 1, 10, 8⟩
def dB : Dl := ⟨7, 1, 0, 1, 0, 8, 10⟩
def bk0 : Bk := ⟨2, 2, [], 0⟩
def bk1 : Bk := ⟨2, 2, [⟨dA, 1, 0, 0⟩], 0⟩
def bk2 : Bk := ⟨2, 2, [⟨dA, 2, 0, 1⟩], 1⟩
theorem sub0 : bk0.sub dA = ((false, 0), bk1) := rfl
theorem sub1 : bk1.sub dB = ((true, 0), bk2) := rfl
theorem all2 : bk2.all 2 = [7] := by unfold Bk.all bk2 lowest; simp [dA]
theorem matched2 : matchedD bk2 = [dA] := by unfold matchedD; rw [all2]; rfl
/-- what Net tells of the book of one instruction -/
theorem awake_net {P : Nat → Prop} {W : World} {gb : Nat} (h : PB P W gb bk2) : Calls Tryz.prog 9 #[.pointer (some ⟨gb, 0, none⟩), .int .i64 2, .int .i64 2] W fun e w' =>
    ∃ a cap b off p0 k0 p1 k1, e = .returned (.tuple #[.slice a 2 cap, .int .i64 0]) ∧ Below W.heap.size W w' ∧ a = some ⟨b, off, none⟩ ∧ b < w'.heap.size ∧
      w'.cell? ⟨b, off, none⟩ = some (.slice p0 2 k0) ∧ Seq64 w' p0 2 [-10, 8] ∧ w'.cell? ⟨b, off + 1, none⟩ = some (.slice p1 2 k1) ∧ Seq64 w' p1 2 [10, -8] := by
  refine (net_main h 2 2 (by omega) (by omega) (by omega) (by omega) (by decide) (by unfold ofSt bk2; decide) (by rw [all2]; intro id hid; obtain rfl := List.mem_singleton.1 hid; unfold In64; decide) (by rw [all2]; decide) (by rw [matched2]; intro d hd; obtain rfl := List.mem_singleton.1 hd; unfold DlOk dA; decide)).mono ?_
  rintro e w' ⟨hb, hN⟩
  rw [matched2] at hN
  have q1 : [dA].any (fun d => outD d ((2 : Nat) : Int) ((2 : Nat) : Int)) = false := by decide
  have q2 : overF (flowsL [dA]) (((2 : Nat) : Int)).toNat (((2 : Nat) : Int)).toNat = false := by decide
  have q3 : netsL (flowsL [dA]) (((2 : Nat) : Int)).toNat (((2 : Nat) : Int)).toNat = [[-10, 8], [10, -8]] := by decide
  rcases hN with ⟨hm, _⟩ | ⟨_, _, _, _, hm, _⟩ | ⟨_, _, _, _, _, hm, _⟩ | ⟨_, _, _, _, _, _, u, rfl, hU⟩
  · omega
  · rw [q1] at hm; cases hm
  · rw [q2] at hm; cases hm
  · rw [q3] at hU
    obtain ⟨a, cap, rfl, hU⟩ := hU
    obtain ⟨b, off, rfl, hlt, hall⟩ := hU.resolve_left (by simp)
    obtain ⟨p0, k0, c0, s0⟩ := hall 0 (by decide)
    obtain ⟨p1, k1, c1, s1⟩ := hall 1 (by decide)
    exact ⟨_, cap, b, off, p0, k0, p1, k1, rfl, hb, rfl, hlt, c0, s0, c1, s1⟩
theorem awake_same {W : World} {p : Option Addr} {k : Nat} (x y : Int) (hx : Amt x) (hy : Amt y) (h : Seq64 W p 2 [x, y]) : Calls Tryz.prog 22 #[.slice p 2 k, .slice (some ⟨W.heap.size, 0, none⟩) 2 2] (W.alloc (.cells #[.int .i64 x, .int .i64 y] 2)) fun e w' =>
    e = .returned (.bool true) ∧ Below W.heap.size W w' := by
  have hb2 : Below W.heap.size W (W.alloc (.cells #[.int .i64 x, .int .i64 y] 2)) := (Below.refl _ _).alloc (Nat.le_refl _) _
  refine (YthocnlalahknjaaGreat.same_any p _ 2 k 2 2 [x, y] [x, y] _ (h.kept hb2) (seq_new2 _ W.heap.size 2 [x, y] 2 (heap_alloc_new W _) rfl (amt_all fun z hz => by simp at hz; rcases hz with rfl | rfl <;> assumption) (by omega))).mono ?_
  rintro e w' ⟨rfl, hb⟩
  exact ⟨by simp, hb2.trans (hb.mono hb2.size)⟩
theorem useq_new (W : World) (l : List Du) (n : Nat) (hn : n = l.length) (cs : Array Value) (hcs : cs = (cellsU l).toArray) : USeq (W.alloc (.cells cs 62)) (.slice (some ⟨W.heap.size, 0, none⟩) n n) l := by
  subst hcs
  refine ⟨_, n, by rw [hn], by omega, .inr ⟨W.heap.size, 0, rfl, by simp, fun i hi j u hu => ?_⟩⟩
  have hj : j < 4 := by
    have := (List.getElem?_eq_some_iff.1 hu).1
    rwa [Du.cs_len] at this
  rw [Nat.zero_add]
  refine obj_cell (heap_alloc_new W _) ?_
  rw [List.getElem?_toArray, cellsU_at hi j hj]; exact hu
theorem awake_sameU {W : World} {u : Value} (l : List Du) (n : Nat) (hn : n = l.length) (hl : l.length ≤ 1000) (cs : Array Value) (hcs : cs = (cellsU l).toArray) (h : USeq W u l) : Calls Tryz.prog 18 #[u, .slice (some ⟨W.heap.size, 0, none⟩) n n] (W.alloc (.cells cs 62)) fun e w' =>
    e = .returned (.bool true) ∧ Below W.heap.size W w' := by
  have hb2 : Below W.heap.size W (W.alloc (.cells cs 62)) := (Below.refl _ _).alloc (Nat.le_refl _) _
  refine (sameU_any u _ l l _ (h.kept hb2) (useq_new W l n hn cs hcs) (by omega) (by omega)).mono ?_
  rintro e w' ⟨rfl, q, rfl⟩
  exact ⟨by simp, ⟨hb2.os, hb2.tape, hb2.output, hb2.size, hb2.block⟩⟩

set_option maxHeartbeats 4000000 in
set_option maxRecDepth 100000 in
theorem awake_any (w : World) : Calls Tryz.prog 7 #[] w fun e w' => e = .returned (.bool true) ∧ Below w.heap.size w w' := by
  obtain ⟨P, hP⟩ : ∃ P : Nat → Prop, P = fun j => w.heap.size ≤ j := ⟨_, rfl⟩
  have hnew := new_yes P 2 2 w (by decide) (fun i hi => by rw [hP]; exact hi)
  have hs1 := fun (W : World) (gb : Nat) (h : PB P W gb bk0) (hf : w.heap.size ≤ W.heap.size) => submit_any h dA (by unfold In64 dA; decide) (by decide) (by decide) (fun i hi => by rw [hP]; exact Nat.le_trans hf hi)
  have hs2 := fun (W : World) (gb : Nat) (h : PB P W gb bk1) (hf : w.heap.size ≤ W.heap.size) => submit_any h dB (by unfold In64 dB; decide) (by decide) (by decide) (fun i hi => by rw [hP]; exact Nat.le_trans hf hi)
  rw [sub0] at hs1
  rw [sub1] at hs2
  have hPw : ∀ j, j < w.heap.size → ¬ P j := fun j hj => by rw [hP]; omega
  have vA : dA.val = .agg #[.int .i64 7, .int .i64 0, .int .i64 1, .int .i64 0, .int .i64 1, .int .i64 10, .int .i64 8] := rfl
  have vB : dB.val = .agg #[.int .i64 7, .int .i64 1, .int .i64 0, .int .i64 1, .int .i64 0, .int .i64 8, .int .i64 10] := rfl
  rw [vA] at hs1
  rw [vB] at hs2
  replace hnew := Lib.hid hnew
  replace hs1 := Lib.hid hs1
  replace hs2 := Lib.hid hs2
  replace hPw := Lib.hid hPw
  clear vA vB hP
  have hnn : Hid (∀ W, Calls Tryz.prog 9 #[.pointer none, .int .i64 2, .int .i64 2] W fun e w' => e = .returned (.tuple #[.slice none 0 0, .int .i64 1]) ∧ W = w') := Lib.hid fun W => net_nil 2 2 W
  go_enter Tryz.func7, Tryz.ntmps7
  go_upto_region 11 with (first
    | (go_at_call 20; (with_reducible refine hnew.out.mono ?_); rintro e w1 ⟨gb, rfl, hB1, hb1, -⟩; replace hB1 : Hid (PB P w1 gb bk0) := Lib.hid hB1; replace hb1 := Lib.hid hb1)
    | (go_at_call 21; (with_reducible refine (hs1.out w1 gb hB1.out hb1.out.size).mono ?_); rintro e w2 ⟨rfl, hB2, hK2⟩; replace hB2 := Lib.hid hB2; replace hK2 : Hid (Kp P w w2) := Lib.hid ((Kp.of_below hb1.out).trans hK2))
    | (go_at_call 21; (with_reducible refine (hs2.out w2 gb hB2.out hK2.out.size).mono ?_); rintro e w3 ⟨rfl, hB3, hK3⟩; replace hB3 := Lib.hid hB3; replace hK3 : Hid (Kp P w w3) := Lib.hid (hK2.out.trans hK3))
    | (go_at_call 9; (with_reducible refine (awake_net hB3.out).mono ?_); rintro e w4 ⟨a, cap, b, off, p0, k0, p1, k1, rfl, hb4, rfl, hlt4, c0, s0, c1, s1⟩; have hlt4' := hlt4; replace hb4 := Lib.hid hb4; replace s0 := Lib.hid s0; replace s1 := Lib.hid s1)
    | (go_at_call 9; (with_reducible refine (hnn.out _).mono ?_); rintro e w5 ⟨rfl, rfl⟩)
    | (go_at_call 13; (with_reducible refine (awake_sch _).mono ?_); rintro e w6 ⟨v6, rfl, hU6, hb6⟩; replace hU6 := Lib.hid hU6; replace hb6 := Lib.hid hb6)
    | (go_at_call 13; (with_reducible refine (awake_sch2 _).mono ?_); rintro e w7 ⟨rfl, hb7⟩; replace hb7 := Lib.hid hb7)
    | (go_at_call 15; (with_reducible refine (awake_beh _ v6 (hU6.out.kept hb7.out)).mono ?_); rintro e w8 ⟨v8, rfl, hU8, hb8⟩; replace hU8 := Lib.hid hU8; replace hb8 := Lib.hid hb8))
  have hb48 : Below w4.heap.size w4 w8 := hb6.out.trans ((hb7.out.trans (hb8.out.mono hb7.out.size)).mono hb6.out.size)
  have hb68 : Below w6.heap.size w6 w8 := hb7.out.trans (hb8.out.mono hb7.out.size)
  have hlt8 : b < w8.heap.size := Nat.lt_of_lt_of_le hlt4 hb48.size
  have hfin : ∀ W, Below w8.heap.size w8 W → Below w.heap.size w W := fun W hb => ((hK3.out.below (Nat.le_refl _) hPw.out).trans (hb4.out.mono hK3.out.size)).trans ((hb48.trans (hb.mono hb48.size)).mono (Nat.le_trans hK3.out.size hb4.out.size))
  replace c0 := (hb48.cell (p := ⟨b, off, none⟩) hlt4).trans c0
  replace c1 := (hb48.cell (p := ⟨b, off + 1, none⟩) hlt4).trans c1
  have t0 := s0.out.kept hb48
  have t1 := fun W (hb : Below w8.heap.size w8 W) => (s1.out.kept hb48).kept hb
  have t6 := fun W (hb : Below w8.heap.size w8 W) => own_any v6 L3 W ((hU6.out.kept hb68).kept hb) (by decide)
  have t8 := fun W (hb : Below w8.heap.size w8 W) => own_any v8 [⟨0, 0, 9, 2⟩] W (hU8.out.kept hb) (by decide)
  have hsA := awake_same (k := k0) (-10) 8 (by unfold Amt; decide) (by unfold Amt; decide) t0
  have hsB := fun W (hb : Below w8.heap.size w8 W) => awake_same (k := k1) 10 (-8) (by unfold Amt; decide) (by unfold Amt; decide) (t1 W hb)
  have hu6 := fun W u (h : USeq W u L3) => awake_sameU L3 3 rfl (by decide) #[.int .i64 0, .int .i64 0, .int .i64 5, .int .i64 4, .int .i64 0, .int .i64 0, .int .i64 9, .int .i64 3, .int .i64 0, .int .i64 0, .int .i64 12, .int .i64 3] rfl h
  have hu8 := fun W u (h : USeq W u [(⟨0, 0, 9, 2⟩ : Du)]) => awake_sameU [⟨0, 0, 9, 2⟩] 1 rfl (by decide) #[.int .i64 0, .int .i64 0, .int .i64 9, .int .i64 2] rfl h
  replace hsA := Lib.hid hsA
  replace hsB := Lib.hid hsB
  replace hu6 := Lib.hid hu6
  replace hu8 := Lib.hid hu8
  replace t6 := Lib.hid t6
  replace t8 := Lib.hid t8
  replace hfin := Lib.hid hfin
  replace hb48 := Lib.hid hb48
  clear t0 t1 hb68
  go_wp2_with (first
    | (go_at_call 22; (with_reducible refine hsA.out.mono ?_); rintro e wa ⟨rfl, hba⟩; have c1a := (hba.cell (p := ⟨b, off + 1, none⟩) hlt8).trans c1; replace hba := Lib.hid hba)
    | (go_at_call 22; (with_reducible refine (hsB.out wa hba.out).mono ?_); rintro e wb ⟨rfl, hbb⟩; replace hbb : Hid (Below w8.heap.size w8 wb) := Lib.hid (hba.out.trans (hbb.mono hba.out.size)))
    | (go_at_call 17; (with_reducible refine (t6.out wb hbb.out).mono ?_); rintro e wc ⟨u6, rfl, hV6, hbc⟩; replace hV6 := Lib.hid hV6; replace hbc : Hid (Below w8.heap.size w8 wc) := Lib.hid (hbb.out.trans (hbc.mono hbb.out.size)))
    | (go_at_call 18; (with_reducible refine (hu6.out wc u6 hV6.out).mono ?_); rintro e wd ⟨rfl, hbd⟩; replace hbd : Hid (Below w8.heap.size w8 wd) := Lib.hid (hbc.out.trans (hbd.mono hbc.out.size)))
    | (go_at_call 17; (with_reducible refine (t8.out wd hbd.out).mono ?_); rintro e we ⟨u8, rfl, hV8, hbe⟩; replace hV8 := Lib.hid hV8; replace hbe : Hid (Below w8.heap.size w8 we) := Lib.hid (hbd.out.trans (hbe.mono hbd.out.size)))
    | (go_at_call 18; (with_reducible refine (hu8.out we u8 hV8.out).mono ?_); rintro e wf ⟨rfl, hbf⟩; replace hbf : Hid (Below w8.heap.size w8 wf) := Lib.hid (hbe.out.trans (hbf.mono hbe.out.size))))
  go_ret
  exact ⟨rfl, hfin.out _ hbf.out⟩
end Go.Proofs.YthocnlalahknjaaGreat.Dd
