/- The contract of the reference's Rescind. -/
import Derived.Test.YtflbggehgjllcaaDoorRE
namespace Go.Proofs.YtflbggehgjllcaaDoor
open Go.RowKit
set_option linter.unusedVariables false
set_option linter.unusedSimpArgs false
section
variable {P : Nat → Prop} {w : World} {rb : Nat} {b : Bk} {v : Value}
set_option maxHeartbeats 4000000 in
set_option maxRecDepth 100000 in
theorem rrescind_any (h : RB P w rb b) (m id : Int) (ho : b.Ok) (hf : ∀ j, w.heap.size ≤ j → P j) :
    Calls Tryd.prog 25 #[.pointer (some ⟨rb, 0, none⟩), .int .i64 m, .int .i64 id] w fun e w' => e = .returned (.tuple #[.int .i64 (b.res m id).1.1, .int .i64 (b.res m id).1.2]) ∧ RB P w' rb (b.res m id).2 ∧ Kp P w w' := by
  have hlen : b.l.length ≤ 1000 := by have := ho.len; omega
  have c := at_any h id hlen
  rcases ha : atL b.l id with _ | i
  · rw [ha] at c
    have e : b.res m id = ((0, 5), b) := by unfold Bk.res; rw [ha]
    rw [e]
    replace h := Lib.hid h
    replace c : Calls Tryd.prog 28 #[.pointer (some ⟨rb, 0, none⟩), .int .i64 id] w fun e w' => e = .returned (.int .i64 (-1)) ∧ w = w' := c
    clear e ha
    go_enter Tryd.func25, Tryd.ntmps25
    go_wp2_with (go_at_call 28; (with_reducible refine c.mono ?_); rintro e w' ⟨rfl, rfl⟩)
    go_ret2
    exact ⟨rfl, h.out, Kp.refl _ _⟩
  · obtain ⟨hlt, -⟩ := atL_some ha
    rw [ha] at c
    replace c : Calls Tryd.prog 28 #[.pointer (some ⟨rb, 0, none⟩), .int .i64 id] w fun e w' => e = .returned (.int .i64 (i : Int)) ∧ w = w' := c
    have hres : b.res m id = (if (b.l[i]).side m = 0 then ((0, 5), b) else if (b.l[i]).open = false then ((0, 7), b) else if (b.l[i]).ask = (b.l[i]).side m ∨ (b.l[i]).ask = 3 then ((0, 6), b) else ((((b.l[i]).asks ((b.l[i]).side m)).st, 0), { b with l := b.l.set i ((b.l[i]).asks ((b.l[i]).side m)) })) := by unfold Bk.res; rw [ha]; dsimp only; rw [getD_at hlt]
    obtain ⟨v, h⟩ := h
    obtain ⟨g, cap, cur, rfl, -⟩ := orow_some h.row (by omega)
    obtain ⟨e0, e1, e2, e3, e4, e5, e6, e7, e8, e9, e10⟩ := h.entry hlt rfl
    have c2 : w.cell? ⟨rb, 2, none⟩ = some (.slice (some ⟨g, 0, none⟩) b.l.length cap) := obj_cell h.obj rfl
    have hb := fun o => (Below.refl w.heap.size w).alloc (Nat.le_refl _) o
    have cs : ∀ (x : En) (cs : Array Value) (u : Value), cs[7]? = some u → Calls Tryd.prog 52 #[.pointer (some ⟨rb, 0, none⟩), .int .i64 (i : Int), x.rval] (w.alloc (.cells cs 61)) fun e w' => e = .returned (.tuple #[]) ∧ RB P w' rb { b with l := b.l.set i x } ∧ Kp P w w' ∧ w'.cell? ⟨w.heap.size, 7, none⟩ = some u := fun x cs u hu => by
      have hs1 : (w.alloc (.cells cs 61)).heap.size = w.heap.size + 1 := by simp
      have hR0 : RB (fun j => P j ∧ j ≠ w.heap.size) w rb b := (RB.live rb b).weak ⟨_, h⟩ fun j hj hp => ⟨hp, by omega⟩
      have hR1 := below_rb hR0 (hb (.cells cs 61))
      refine (rset_at hR1 i hlt x x.rval rfl hlen fun j hj => ⟨hf j (by omega), by omega⟩).mono ?_
      rintro e w' ⟨h1, h2, h3⟩
      exact ⟨h1, (RB.live rb _).weak h2 fun j _ hp => hp.1, (Kp.of_below (hb (.cells cs 61))).trans (h3.mono fun j _ hp => hp.1), h3.cell (obj_cell (heap_alloc_new w (.cells cs 61)) hu) fun hp => hp.2 rfl⟩
    have hiz : (0 : Int) ≤ (i : Int) := by omega
    have hin : (i : Int) < (b.l.length : Int) := by omega
    obtain ⟨n, hn⟩ : ∃ n, n = b.l.length := ⟨_, rfl⟩
    rw [← hn] at c2 hin
    have hP : RB P w rb b := ⟨_, h⟩
    have hg := ho.good hlt
    have hst := En.may_st hg.2.2.1
    have hk0 := hg.2.2.2.1
    have hk3 := En.may_ask hg.2.2.1
    have hm1 : (b.l[i]).st = 1 → (b.l[i]).ask = 0 := fun e => (En.may_1 hg.2.2.1 e).2
    clear h hg ho hlen
    generalize hx : b.l[i] = x at *
    replace hx := Lib.hid hx
    obtain ⟨d, st, ask, nth⟩ := x
    dsimp only at hst hk0 hk3 hm1 e0 e1 e2 e3 e4 e5 e6 e7 e10
    replace hP := Lib.hid hP
    replace hb := Lib.hid hb
    replace hn := Lib.hid hn
    clear ha
    have hs4 : st = 1 ∨ st = 2 ∨ st = 3 ∨ st = 4 := by omega
    have ha4 : ask = 0 ∨ ask = 1 ∨ ask = 2 ∨ ask = 3 := by omega
    by_cases pa : m = d.a
    · have qa : (m == d.a) = true := by simpa using pa
      have na : (m != d.a) = false := by simp [bne, qa]
      have pb := True.intro
      rcases hs4 with rfl | rfl | rfl | rfl
      · obtain rfl : ask = 0 := hm1 rfl
        clear ha4
        replace e8 : w.cell? ⟨g, i * 11 + 8, none⟩ = some (.bool false) := e8
        replace e9 : w.cell? ⟨g, i * 11 + 9, none⟩ = some (.bool false) := e9
        have hsd : En.side ⟨d, 1, 0, nth⟩ m = 1 := by unfold En.side; dsimp only; rw [if_pos pa]
        have hr : b.res m id = ((4, 0), { b with l := b.l.set i ⟨d, 4, 0, nth⟩ }) := by rw [hres, hsd]; simp [En.open, En.asks]
        rw [hr]
        clear hres hr hsd hk0 hk3 hm1 hst pa pb
        replace cs : ∀ cs, cs[7]? = some (.int .i64 4) → Calls Tryd.prog 52 #[.pointer (some ⟨rb, 0, none⟩), .int .i64 (i : Int), .agg #[.int .i64 d.id, .int .i64 d.a, .int .i64 d.b, .int .i64 d.sc, .int .i64 d.bc, .int .i64 d.s, .int .i64 d.t, .int .i64 4, .bool false, .bool false, .int .i64 nth]] (w.alloc (.cells cs 61)) fun e w' => e = .returned (.tuple #[]) ∧ RB P w' rb { b with l := b.l.set i ⟨d, 4, 0, nth⟩ } ∧ Kp P w w' ∧ w'.cell? ⟨w.heap.size, 7, none⟩ = some (.int .i64 4) := fun v => cs ⟨d, 4, 0, nth⟩ v (.int .i64 4)
        replace cs := Lib.hid cs
        go_enter Tryd.func25, Tryd.ntmps25
        go_wp2_with (first | (go_at_call 28; (with_reducible refine c.mono ?_); rintro e w' ⟨rfl, rfl⟩) | (go_at_call 52; (with_reducible refine (cs.out _ rfl).mono ?_); rintro e w2 ⟨rfl, hR, hK, hz7⟩; replace hR := Lib.hid hR; replace hK := Lib.hid hK))
        go_ret2
        exact ⟨rfl, hR.out, hK.out⟩
      · rcases ha4 with rfl | rfl | rfl | rfl
        · replace e8 : w.cell? ⟨g, i * 11 + 8, none⟩ = some (.bool false) := e8
          replace e9 : w.cell? ⟨g, i * 11 + 9, none⟩ = some (.bool false) := e9
          have hsd : En.side ⟨d, 2, 0, nth⟩ m = 1 := by unfold En.side; dsimp only; rw [if_pos pa]
          have hr : b.res m id = ((2, 0), { b with l := b.l.set i ⟨d, 2, 1, nth⟩ }) := by rw [hres, hsd]; simp [En.open, En.asks]
          rw [hr]
          clear hres hr hsd hk0 hk3 hm1 hst pa pb
          replace cs : ∀ cs, cs[7]? = some (.int .i64 2) → Calls Tryd.prog 52 #[.pointer (some ⟨rb, 0, none⟩), .int .i64 (i : Int), .agg #[.int .i64 d.id, .int .i64 d.a, .int .i64 d.b, .int .i64 d.sc, .int .i64 d.bc, .int .i64 d.s, .int .i64 d.t, .int .i64 2, .bool true, .bool false, .int .i64 nth]] (w.alloc (.cells cs 61)) fun e w' => e = .returned (.tuple #[]) ∧ RB P w' rb { b with l := b.l.set i ⟨d, 2, 1, nth⟩ } ∧ Kp P w w' ∧ w'.cell? ⟨w.heap.size, 7, none⟩ = some (.int .i64 2) := fun v => cs ⟨d, 2, 1, nth⟩ v (.int .i64 2)
          replace cs := Lib.hid cs
          go_enter Tryd.func25, Tryd.ntmps25
          go_wp2_with (first | (go_at_call 28; (with_reducible refine c.mono ?_); rintro e w' ⟨rfl, rfl⟩) | (go_at_call 52; (with_reducible refine (cs.out _ rfl).mono ?_); rintro e w2 ⟨rfl, hR, hK, hz7⟩; replace hR := Lib.hid hR; replace hK := Lib.hid hK))
          go_ret2
          exact ⟨rfl, hR.out, hK.out⟩
        · replace e8 : w.cell? ⟨g, i * 11 + 8, none⟩ = some (.bool true) := e8
          replace e9 : w.cell? ⟨g, i * 11 + 9, none⟩ = some (.bool false) := e9
          have hsd : En.side ⟨d, 2, 1, nth⟩ m = 1 := by unfold En.side; dsimp only; rw [if_pos pa]
          have hr : b.res m id = ((0, 6), b) := by rw [hres, hsd]; simp [En.open, En.asks]
          rw [hr]
          clear hres hr hsd hk0 hk3 hm1 hst pa pb
          replace cs := Lib.hid cs
          go_enter Tryd.func25, Tryd.ntmps25
          go_wp2_with (go_at_call 28; (with_reducible refine c.mono ?_); rintro e w' ⟨rfl, rfl⟩)
          go_ret2
          exact ⟨rfl, below_rb hP.out (hb.out _), Kp.of_below (hb.out _)⟩
        · replace e8 : w.cell? ⟨g, i * 11 + 8, none⟩ = some (.bool false) := e8
          replace e9 : w.cell? ⟨g, i * 11 + 9, none⟩ = some (.bool true) := e9
          have hsd : En.side ⟨d, 2, 2, nth⟩ m = 1 := by unfold En.side; dsimp only; rw [if_pos pa]
          have hr : b.res m id = ((4, 0), { b with l := b.l.set i ⟨d, 4, 3, nth⟩ }) := by rw [hres, hsd]; simp [En.open, En.asks]
          rw [hr]
          clear hres hr hsd hk0 hk3 hm1 hst pa pb
          replace cs : ∀ cs, cs[7]? = some (.int .i64 4) → Calls Tryd.prog 52 #[.pointer (some ⟨rb, 0, none⟩), .int .i64 (i : Int), .agg #[.int .i64 d.id, .int .i64 d.a, .int .i64 d.b, .int .i64 d.sc, .int .i64 d.bc, .int .i64 d.s, .int .i64 d.t, .int .i64 4, .bool true, .bool true, .int .i64 nth]] (w.alloc (.cells cs 61)) fun e w' => e = .returned (.tuple #[]) ∧ RB P w' rb { b with l := b.l.set i ⟨d, 4, 3, nth⟩ } ∧ Kp P w w' ∧ w'.cell? ⟨w.heap.size, 7, none⟩ = some (.int .i64 4) := fun v => cs ⟨d, 4, 3, nth⟩ v (.int .i64 4)
          replace cs := Lib.hid cs
          go_enter Tryd.func25, Tryd.ntmps25
          go_wp2_with (first | (go_at_call 28; (with_reducible refine c.mono ?_); rintro e w' ⟨rfl, rfl⟩) | (go_at_call 52; (with_reducible refine (cs.out _ rfl).mono ?_); rintro e w2 ⟨rfl, hR, hK, hz7⟩; replace hR := Lib.hid hR; replace hK := Lib.hid hK))
          go_ret2
          exact ⟨rfl, hR.out, hK.out⟩
        · replace e8 : w.cell? ⟨g, i * 11 + 8, none⟩ = some (.bool true) := e8
          replace e9 : w.cell? ⟨g, i * 11 + 9, none⟩ = some (.bool true) := e9
          have hsd : En.side ⟨d, 2, 3, nth⟩ m = 1 := by unfold En.side; dsimp only; rw [if_pos pa]
          have hr : b.res m id = ((0, 6), b) := by rw [hres, hsd]; simp [En.open, En.asks]
          rw [hr]
          clear hres hr hsd hk0 hk3 hm1 hst pa pb
          replace cs := Lib.hid cs
          go_enter Tryd.func25, Tryd.ntmps25
          go_wp2_with (go_at_call 28; (with_reducible refine c.mono ?_); rintro e w' ⟨rfl, rfl⟩)
          go_ret2
          exact ⟨rfl, below_rb hP.out (hb.out _), Kp.of_below (hb.out _)⟩
      · rcases ha4 with rfl | rfl | rfl | rfl
        · replace e8 : w.cell? ⟨g, i * 11 + 8, none⟩ = some (.bool false) := e8
          replace e9 : w.cell? ⟨g, i * 11 + 9, none⟩ = some (.bool false) := e9
          have hsd : En.side ⟨d, 3, 0, nth⟩ m = 1 := by unfold En.side; dsimp only; rw [if_pos pa]
          have hr : b.res m id = ((0, 7), b) := by rw [hres, hsd]; simp [En.open, En.asks]
          rw [hr]
          clear hres hr hsd hk0 hk3 hm1 hst pa pb
          replace cs := Lib.hid cs
          go_enter Tryd.func25, Tryd.ntmps25
          go_wp2_with (go_at_call 28; (with_reducible refine c.mono ?_); rintro e w' ⟨rfl, rfl⟩)
          go_ret2
          exact ⟨rfl, below_rb hP.out (hb.out _), Kp.of_below (hb.out _)⟩
        · replace e8 : w.cell? ⟨g, i * 11 + 8, none⟩ = some (.bool true) := e8
          replace e9 : w.cell? ⟨g, i * 11 + 9, none⟩ = some (.bool false) := e9
          have hsd : En.side ⟨d, 3, 1, nth⟩ m = 1 := by unfold En.side; dsimp only; rw [if_pos pa]
          have hr : b.res m id = ((0, 7), b) := by rw [hres, hsd]; simp [En.open, En.asks]
          rw [hr]
          clear hres hr hsd hk0 hk3 hm1 hst pa pb
          replace cs := Lib.hid cs
          go_enter Tryd.func25, Tryd.ntmps25
          go_wp2_with (go_at_call 28; (with_reducible refine c.mono ?_); rintro e w' ⟨rfl, rfl⟩)
          go_ret2
          exact ⟨rfl, below_rb hP.out (hb.out _), Kp.of_below (hb.out _)⟩
        · replace e8 : w.cell? ⟨g, i * 11 + 8, none⟩ = some (.bool false) := e8
          replace e9 : w.cell? ⟨g, i * 11 + 9, none⟩ = some (.bool true) := e9
          have hsd : En.side ⟨d, 3, 2, nth⟩ m = 1 := by unfold En.side; dsimp only; rw [if_pos pa]
          have hr : b.res m id = ((0, 7), b) := by rw [hres, hsd]; simp [En.open, En.asks]
          rw [hr]
          clear hres hr hsd hk0 hk3 hm1 hst pa pb
          replace cs := Lib.hid cs
          go_enter Tryd.func25, Tryd.ntmps25
          go_wp2_with (go_at_call 28; (with_reducible refine c.mono ?_); rintro e w' ⟨rfl, rfl⟩)
          go_ret2
          exact ⟨rfl, below_rb hP.out (hb.out _), Kp.of_below (hb.out _)⟩
        · replace e8 : w.cell? ⟨g, i * 11 + 8, none⟩ = some (.bool true) := e8
          replace e9 : w.cell? ⟨g, i * 11 + 9, none⟩ = some (.bool true) := e9
          have hsd : En.side ⟨d, 3, 3, nth⟩ m = 1 := by unfold En.side; dsimp only; rw [if_pos pa]
          have hr : b.res m id = ((0, 7), b) := by rw [hres, hsd]; simp [En.open, En.asks]
          rw [hr]
          clear hres hr hsd hk0 hk3 hm1 hst pa pb
          replace cs := Lib.hid cs
          go_enter Tryd.func25, Tryd.ntmps25
          go_wp2_with (go_at_call 28; (with_reducible refine c.mono ?_); rintro e w' ⟨rfl, rfl⟩)
          go_ret2
          exact ⟨rfl, below_rb hP.out (hb.out _), Kp.of_below (hb.out _)⟩
      · rcases ha4 with rfl | rfl | rfl | rfl
        · replace e8 : w.cell? ⟨g, i * 11 + 8, none⟩ = some (.bool false) := e8
          replace e9 : w.cell? ⟨g, i * 11 + 9, none⟩ = some (.bool false) := e9
          have hsd : En.side ⟨d, 4, 0, nth⟩ m = 1 := by unfold En.side; dsimp only; rw [if_pos pa]
          have hr : b.res m id = ((0, 7), b) := by rw [hres, hsd]; simp [En.open, En.asks]
          rw [hr]
          clear hres hr hsd hk0 hk3 hm1 hst pa pb
          replace cs := Lib.hid cs
          go_enter Tryd.func25, Tryd.ntmps25
          go_wp2_with (go_at_call 28; (with_reducible refine c.mono ?_); rintro e w' ⟨rfl, rfl⟩)
          go_ret2
          exact ⟨rfl, below_rb hP.out (hb.out _), Kp.of_below (hb.out _)⟩
        · replace e8 : w.cell? ⟨g, i * 11 + 8, none⟩ = some (.bool true) := e8
          replace e9 : w.cell? ⟨g, i * 11 + 9, none⟩ = some (.bool false) := e9
          have hsd : En.side ⟨d, 4, 1, nth⟩ m = 1 := by unfold En.side; dsimp only; rw [if_pos pa]
          have hr : b.res m id = ((0, 7), b) := by rw [hres, hsd]; simp [En.open, En.asks]
          rw [hr]
          clear hres hr hsd hk0 hk3 hm1 hst pa pb
          replace cs := Lib.hid cs
          go_enter Tryd.func25, Tryd.ntmps25
          go_wp2_with (go_at_call 28; (with_reducible refine c.mono ?_); rintro e w' ⟨rfl, rfl⟩)
          go_ret2
          exact ⟨rfl, below_rb hP.out (hb.out _), Kp.of_below (hb.out _)⟩
        · replace e8 : w.cell? ⟨g, i * 11 + 8, none⟩ = some (.bool false) := e8
          replace e9 : w.cell? ⟨g, i * 11 + 9, none⟩ = some (.bool true) := e9
          have hsd : En.side ⟨d, 4, 2, nth⟩ m = 1 := by unfold En.side; dsimp only; rw [if_pos pa]
          have hr : b.res m id = ((0, 7), b) := by rw [hres, hsd]; simp [En.open, En.asks]
          rw [hr]
          clear hres hr hsd hk0 hk3 hm1 hst pa pb
          replace cs := Lib.hid cs
          go_enter Tryd.func25, Tryd.ntmps25
          go_wp2_with (go_at_call 28; (with_reducible refine c.mono ?_); rintro e w' ⟨rfl, rfl⟩)
          go_ret2
          exact ⟨rfl, below_rb hP.out (hb.out _), Kp.of_below (hb.out _)⟩
        · replace e8 : w.cell? ⟨g, i * 11 + 8, none⟩ = some (.bool true) := e8
          replace e9 : w.cell? ⟨g, i * 11 + 9, none⟩ = some (.bool true) := e9
          have hsd : En.side ⟨d, 4, 3, nth⟩ m = 1 := by unfold En.side; dsimp only; rw [if_pos pa]
          have hr : b.res m id = ((0, 7), b) := by rw [hres, hsd]; simp [En.open, En.asks]
          rw [hr]
          clear hres hr hsd hk0 hk3 hm1 hst pa pb
          replace cs := Lib.hid cs
          go_enter Tryd.func25, Tryd.ntmps25
          go_wp2_with (go_at_call 28; (with_reducible refine c.mono ?_); rintro e w' ⟨rfl, rfl⟩)
          go_ret2
          exact ⟨rfl, below_rb hP.out (hb.out _), Kp.of_below (hb.out _)⟩
    · have qa : (m == d.a) = false := by simpa using pa
      have na : (m != d.a) = true := by simp [bne, qa]
      by_cases pb : m = d.b
      · have qb : (m == d.b) = true := by simpa using pb
        have nb : (m != d.b) = false := by simp [bne, qb]
        rcases hs4 with rfl | rfl | rfl | rfl
        · obtain rfl : ask = 0 := hm1 rfl
          clear ha4
          replace e8 : w.cell? ⟨g, i * 11 + 8, none⟩ = some (.bool false) := e8
          replace e9 : w.cell? ⟨g, i * 11 + 9, none⟩ = some (.bool false) := e9
          have hsd : En.side ⟨d, 1, 0, nth⟩ m = 0 := by unfold En.side; dsimp only; rw [if_neg pa, if_neg (fun h => h.2 rfl)]
          have hr : b.res m id = ((0, 5), b) := by rw [hres, hsd]; simp [En.open, En.asks]
          rw [hr]
          clear hres hr hsd hk0 hk3 hm1 hst pa pb
          replace cs := Lib.hid cs
          go_enter Tryd.func25, Tryd.ntmps25
          go_wp2_with (go_at_call 28; (with_reducible refine c.mono ?_); rintro e w' ⟨rfl, rfl⟩)
          go_ret2
          exact ⟨rfl, below_rb hP.out (hb.out _), Kp.of_below (hb.out _)⟩
        · rcases ha4 with rfl | rfl | rfl | rfl
          · replace e8 : w.cell? ⟨g, i * 11 + 8, none⟩ = some (.bool false) := e8
            replace e9 : w.cell? ⟨g, i * 11 + 9, none⟩ = some (.bool false) := e9
            have hsd : En.side ⟨d, 2, 0, nth⟩ m = 2 := by unfold En.side; dsimp only; rw [if_neg pa, if_pos ⟨pb, by decide⟩]
            have hr : b.res m id = ((2, 0), { b with l := b.l.set i ⟨d, 2, 2, nth⟩ }) := by rw [hres, hsd]; simp [En.open, En.asks]
            rw [hr]
            clear hres hr hsd hk0 hk3 hm1 hst pa pb
            replace cs : ∀ cs, cs[7]? = some (.int .i64 2) → Calls Tryd.prog 52 #[.pointer (some ⟨rb, 0, none⟩), .int .i64 (i : Int), .agg #[.int .i64 d.id, .int .i64 d.a, .int .i64 d.b, .int .i64 d.sc, .int .i64 d.bc, .int .i64 d.s, .int .i64 d.t, .int .i64 2, .bool false, .bool true, .int .i64 nth]] (w.alloc (.cells cs 61)) fun e w' => e = .returned (.tuple #[]) ∧ RB P w' rb { b with l := b.l.set i ⟨d, 2, 2, nth⟩ } ∧ Kp P w w' ∧ w'.cell? ⟨w.heap.size, 7, none⟩ = some (.int .i64 2) := fun v => cs ⟨d, 2, 2, nth⟩ v (.int .i64 2)
            replace cs := Lib.hid cs
            go_enter Tryd.func25, Tryd.ntmps25
            go_wp2_with (first | (go_at_call 28; (with_reducible refine c.mono ?_); rintro e w' ⟨rfl, rfl⟩) | (go_at_call 52; (with_reducible refine (cs.out _ rfl).mono ?_); rintro e w2 ⟨rfl, hR, hK, hz7⟩; replace hR := Lib.hid hR; replace hK := Lib.hid hK))
            go_ret2
            exact ⟨rfl, hR.out, hK.out⟩
          · replace e8 : w.cell? ⟨g, i * 11 + 8, none⟩ = some (.bool true) := e8
            replace e9 : w.cell? ⟨g, i * 11 + 9, none⟩ = some (.bool false) := e9
            have hsd : En.side ⟨d, 2, 1, nth⟩ m = 2 := by unfold En.side; dsimp only; rw [if_neg pa, if_pos ⟨pb, by decide⟩]
            have hr : b.res m id = ((4, 0), { b with l := b.l.set i ⟨d, 4, 3, nth⟩ }) := by rw [hres, hsd]; simp [En.open, En.asks]
            rw [hr]
            clear hres hr hsd hk0 hk3 hm1 hst pa pb
            replace cs : ∀ cs, cs[7]? = some (.int .i64 4) → Calls Tryd.prog 52 #[.pointer (some ⟨rb, 0, none⟩), .int .i64 (i : Int), .agg #[.int .i64 d.id, .int .i64 d.a, .int .i64 d.b, .int .i64 d.sc, .int .i64 d.bc, .int .i64 d.s, .int .i64 d.t, .int .i64 4, .bool true, .bool true, .int .i64 nth]] (w.alloc (.cells cs 61)) fun e w' => e = .returned (.tuple #[]) ∧ RB P w' rb { b with l := b.l.set i ⟨d, 4, 3, nth⟩ } ∧ Kp P w w' ∧ w'.cell? ⟨w.heap.size, 7, none⟩ = some (.int .i64 4) := fun v => cs ⟨d, 4, 3, nth⟩ v (.int .i64 4)
            replace cs := Lib.hid cs
            go_enter Tryd.func25, Tryd.ntmps25
            go_wp2_with (first | (go_at_call 28; (with_reducible refine c.mono ?_); rintro e w' ⟨rfl, rfl⟩) | (go_at_call 52; (with_reducible refine (cs.out _ rfl).mono ?_); rintro e w2 ⟨rfl, hR, hK, hz7⟩; replace hR := Lib.hid hR; replace hK := Lib.hid hK))
            go_ret2
            exact ⟨rfl, hR.out, hK.out⟩
          · replace e8 : w.cell? ⟨g, i * 11 + 8, none⟩ = some (.bool false) := e8
            replace e9 : w.cell? ⟨g, i * 11 + 9, none⟩ = some (.bool true) := e9
            have hsd : En.side ⟨d, 2, 2, nth⟩ m = 2 := by unfold En.side; dsimp only; rw [if_neg pa, if_pos ⟨pb, by decide⟩]
            have hr : b.res m id = ((0, 6), b) := by rw [hres, hsd]; simp [En.open, En.asks]
            rw [hr]
            clear hres hr hsd hk0 hk3 hm1 hst pa pb
            replace cs := Lib.hid cs
            go_enter Tryd.func25, Tryd.ntmps25
            go_wp2_with (go_at_call 28; (with_reducible refine c.mono ?_); rintro e w' ⟨rfl, rfl⟩)
            go_ret2
            exact ⟨rfl, below_rb hP.out (hb.out _), Kp.of_below (hb.out _)⟩
          · replace e8 : w.cell? ⟨g, i * 11 + 8, none⟩ = some (.bool true) := e8
            replace e9 : w.cell? ⟨g, i * 11 + 9, none⟩ = some (.bool true) := e9
            have hsd : En.side ⟨d, 2, 3, nth⟩ m = 2 := by unfold En.side; dsimp only; rw [if_neg pa, if_pos ⟨pb, by decide⟩]
            have hr : b.res m id = ((0, 6), b) := by rw [hres, hsd]; simp [En.open, En.asks]
            rw [hr]
            clear hres hr hsd hk0 hk3 hm1 hst pa pb
            replace cs := Lib.hid cs
            go_enter Tryd.func25, Tryd.ntmps25
            go_wp2_with (go_at_call 28; (with_reducible refine c.mono ?_); rintro e w' ⟨rfl, rfl⟩)
            go_ret2
            exact ⟨rfl, below_rb hP.out (hb.out _), Kp.of_below (hb.out _)⟩
        · rcases ha4 with rfl | rfl | rfl | rfl
          · replace e8 : w.cell? ⟨g, i * 11 + 8, none⟩ = some (.bool false) := e8
            replace e9 : w.cell? ⟨g, i * 11 + 9, none⟩ = some (.bool false) := e9
            have hsd : En.side ⟨d, 3, 0, nth⟩ m = 2 := by unfold En.side; dsimp only; rw [if_neg pa, if_pos ⟨pb, by decide⟩]
            have hr : b.res m id = ((0, 7), b) := by rw [hres, hsd]; simp [En.open, En.asks]
            rw [hr]
            clear hres hr hsd hk0 hk3 hm1 hst pa pb
            replace cs := Lib.hid cs
            go_enter Tryd.func25, Tryd.ntmps25
            go_wp2_with (go_at_call 28; (with_reducible refine c.mono ?_); rintro e w' ⟨rfl, rfl⟩)
            go_ret2
            exact ⟨rfl, below_rb hP.out (hb.out _), Kp.of_below (hb.out _)⟩
          · replace e8 : w.cell? ⟨g, i * 11 + 8, none⟩ = some (.bool true) := e8
            replace e9 : w.cell? ⟨g, i * 11 + 9, none⟩ = some (.bool false) := e9
            have hsd : En.side ⟨d, 3, 1, nth⟩ m = 2 := by unfold En.side; dsimp only; rw [if_neg pa, if_pos ⟨pb, by decide⟩]
            have hr : b.res m id = ((0, 7), b) := by rw [hres, hsd]; simp [En.open, En.asks]
            rw [hr]
            clear hres hr hsd hk0 hk3 hm1 hst pa pb
            replace cs := Lib.hid cs
            go_enter Tryd.func25, Tryd.ntmps25
            go_wp2_with (go_at_call 28; (with_reducible refine c.mono ?_); rintro e w' ⟨rfl, rfl⟩)
            go_ret2
            exact ⟨rfl, below_rb hP.out (hb.out _), Kp.of_below (hb.out _)⟩
          · replace e8 : w.cell? ⟨g, i * 11 + 8, none⟩ = some (.bool false) := e8
            replace e9 : w.cell? ⟨g, i * 11 + 9, none⟩ = some (.bool true) := e9
            have hsd : En.side ⟨d, 3, 2, nth⟩ m = 2 := by unfold En.side; dsimp only; rw [if_neg pa, if_pos ⟨pb, by decide⟩]
            have hr : b.res m id = ((0, 7), b) := by rw [hres, hsd]; simp [En.open, En.asks]
            rw [hr]
            clear hres hr hsd hk0 hk3 hm1 hst pa pb
            replace cs := Lib.hid cs
            go_enter Tryd.func25, Tryd.ntmps25
            go_wp2_with (go_at_call 28; (with_reducible refine c.mono ?_); rintro e w' ⟨rfl, rfl⟩)
            go_ret2
            exact ⟨rfl, below_rb hP.out (hb.out _), Kp.of_below (hb.out _)⟩
          · replace e8 : w.cell? ⟨g, i * 11 + 8, none⟩ = some (.bool true) := e8
            replace e9 : w.cell? ⟨g, i * 11 + 9, none⟩ = some (.bool true) := e9
            have hsd : En.side ⟨d, 3, 3, nth⟩ m = 2 := by unfold En.side; dsimp only; rw [if_neg pa, if_pos ⟨pb, by decide⟩]
            have hr : b.res m id = ((0, 7), b) := by rw [hres, hsd]; simp [En.open, En.asks]
            rw [hr]
            clear hres hr hsd hk0 hk3 hm1 hst pa pb
            replace cs := Lib.hid cs
            go_enter Tryd.func25, Tryd.ntmps25
            go_wp2_with (go_at_call 28; (with_reducible refine c.mono ?_); rintro e w' ⟨rfl, rfl⟩)
            go_ret2
            exact ⟨rfl, below_rb hP.out (hb.out _), Kp.of_below (hb.out _)⟩
        · rcases ha4 with rfl | rfl | rfl | rfl
          · replace e8 : w.cell? ⟨g, i * 11 + 8, none⟩ = some (.bool false) := e8
            replace e9 : w.cell? ⟨g, i * 11 + 9, none⟩ = some (.bool false) := e9
            have hsd : En.side ⟨d, 4, 0, nth⟩ m = 2 := by unfold En.side; dsimp only; rw [if_neg pa, if_pos ⟨pb, by decide⟩]
            have hr : b.res m id = ((0, 7), b) := by rw [hres, hsd]; simp [En.open, En.asks]
            rw [hr]
            clear hres hr hsd hk0 hk3 hm1 hst pa pb
            replace cs := Lib.hid cs
            go_enter Tryd.func25, Tryd.ntmps25
            go_wp2_with (go_at_call 28; (with_reducible refine c.mono ?_); rintro e w' ⟨rfl, rfl⟩)
            go_ret2
            exact ⟨rfl, below_rb hP.out (hb.out _), Kp.of_below (hb.out _)⟩
          · replace e8 : w.cell? ⟨g, i * 11 + 8, none⟩ = some (.bool true) := e8
            replace e9 : w.cell? ⟨g, i * 11 + 9, none⟩ = some (.bool false) := e9
            have hsd : En.side ⟨d, 4, 1, nth⟩ m = 2 := by unfold En.side; dsimp only; rw [if_neg pa, if_pos ⟨pb, by decide⟩]
            have hr : b.res m id = ((0, 7), b) := by rw [hres, hsd]; simp [En.open, En.asks]
            rw [hr]
            clear hres hr hsd hk0 hk3 hm1 hst pa pb
            replace cs := Lib.hid cs
            go_enter Tryd.func25, Tryd.ntmps25
            go_wp2_with (go_at_call 28; (with_reducible refine c.mono ?_); rintro e w' ⟨rfl, rfl⟩)
            go_ret2
            exact ⟨rfl, below_rb hP.out (hb.out _), Kp.of_below (hb.out _)⟩
          · replace e8 : w.cell? ⟨g, i * 11 + 8, none⟩ = some (.bool false) := e8
            replace e9 : w.cell? ⟨g, i * 11 + 9, none⟩ = some (.bool true) := e9
            have hsd : En.side ⟨d, 4, 2, nth⟩ m = 2 := by unfold En.side; dsimp only; rw [if_neg pa, if_pos ⟨pb, by decide⟩]
            have hr : b.res m id = ((0, 7), b) := by rw [hres, hsd]; simp [En.open, En.asks]
            rw [hr]
            clear hres hr hsd hk0 hk3 hm1 hst pa pb
            replace cs := Lib.hid cs
            go_enter Tryd.func25, Tryd.ntmps25
            go_wp2_with (go_at_call 28; (with_reducible refine c.mono ?_); rintro e w' ⟨rfl, rfl⟩)
            go_ret2
            exact ⟨rfl, below_rb hP.out (hb.out _), Kp.of_below (hb.out _)⟩
          · replace e8 : w.cell? ⟨g, i * 11 + 8, none⟩ = some (.bool true) := e8
            replace e9 : w.cell? ⟨g, i * 11 + 9, none⟩ = some (.bool true) := e9
            have hsd : En.side ⟨d, 4, 3, nth⟩ m = 2 := by unfold En.side; dsimp only; rw [if_neg pa, if_pos ⟨pb, by decide⟩]
            have hr : b.res m id = ((0, 7), b) := by rw [hres, hsd]; simp [En.open, En.asks]
            rw [hr]
            clear hres hr hsd hk0 hk3 hm1 hst pa pb
            replace cs := Lib.hid cs
            go_enter Tryd.func25, Tryd.ntmps25
            go_wp2_with (go_at_call 28; (with_reducible refine c.mono ?_); rintro e w' ⟨rfl, rfl⟩)
            go_ret2
            exact ⟨rfl, below_rb hP.out (hb.out _), Kp.of_below (hb.out _)⟩
      · have qb : (m == d.b) = false := by simpa using pb
        have nb : (m != d.b) = true := by simp [bne, qb]
        rcases hs4 with rfl | rfl | rfl | rfl
        · obtain rfl : ask = 0 := hm1 rfl
          clear ha4
          replace e8 : w.cell? ⟨g, i * 11 + 8, none⟩ = some (.bool false) := e8
          replace e9 : w.cell? ⟨g, i * 11 + 9, none⟩ = some (.bool false) := e9
          have hsd : En.side ⟨d, 1, 0, nth⟩ m = 0 := by unfold En.side; dsimp only; rw [if_neg pa, if_neg (fun h => pb h.1)]
          have hr : b.res m id = ((0, 5), b) := by rw [hres, hsd]; simp [En.open, En.asks]
          rw [hr]
          clear hres hr hsd hk0 hk3 hm1 hst pa pb
          replace cs := Lib.hid cs
          go_enter Tryd.func25, Tryd.ntmps25
          go_wp2_with (go_at_call 28; (with_reducible refine c.mono ?_); rintro e w' ⟨rfl, rfl⟩)
          go_ret2
          exact ⟨rfl, below_rb hP.out (hb.out _), Kp.of_below (hb.out _)⟩
        · rcases ha4 with rfl | rfl | rfl | rfl
          · replace e8 : w.cell? ⟨g, i * 11 + 8, none⟩ = some (.bool false) := e8
            replace e9 : w.cell? ⟨g, i * 11 + 9, none⟩ = some (.bool false) := e9
            have hsd : En.side ⟨d, 2, 0, nth⟩ m = 0 := by unfold En.side; dsimp only; rw [if_neg pa, if_neg (fun h => pb h.1)]
            have hr : b.res m id = ((0, 5), b) := by rw [hres, hsd]; simp [En.open, En.asks]
            rw [hr]
            clear hres hr hsd hk0 hk3 hm1 hst pa pb
            replace cs := Lib.hid cs
            go_enter Tryd.func25, Tryd.ntmps25
            go_wp2_with (go_at_call 28; (with_reducible refine c.mono ?_); rintro e w' ⟨rfl, rfl⟩)
            go_ret2
            exact ⟨rfl, below_rb hP.out (hb.out _), Kp.of_below (hb.out _)⟩
          · replace e8 : w.cell? ⟨g, i * 11 + 8, none⟩ = some (.bool true) := e8
            replace e9 : w.cell? ⟨g, i * 11 + 9, none⟩ = some (.bool false) := e9
            have hsd : En.side ⟨d, 2, 1, nth⟩ m = 0 := by unfold En.side; dsimp only; rw [if_neg pa, if_neg (fun h => pb h.1)]
            have hr : b.res m id = ((0, 5), b) := by rw [hres, hsd]; simp [En.open, En.asks]
            rw [hr]
            clear hres hr hsd hk0 hk3 hm1 hst pa pb
            replace cs := Lib.hid cs
            go_enter Tryd.func25, Tryd.ntmps25
            go_wp2_with (go_at_call 28; (with_reducible refine c.mono ?_); rintro e w' ⟨rfl, rfl⟩)
            go_ret2
            exact ⟨rfl, below_rb hP.out (hb.out _), Kp.of_below (hb.out _)⟩
          · replace e8 : w.cell? ⟨g, i * 11 + 8, none⟩ = some (.bool false) := e8
            replace e9 : w.cell? ⟨g, i * 11 + 9, none⟩ = some (.bool true) := e9
            have hsd : En.side ⟨d, 2, 2, nth⟩ m = 0 := by unfold En.side; dsimp only; rw [if_neg pa, if_neg (fun h => pb h.1)]
            have hr : b.res m id = ((0, 5), b) := by rw [hres, hsd]; simp [En.open, En.asks]
            rw [hr]
            clear hres hr hsd hk0 hk3 hm1 hst pa pb
            replace cs := Lib.hid cs
            go_enter Tryd.func25, Tryd.ntmps25
            go_wp2_with (go_at_call 28; (with_reducible refine c.mono ?_); rintro e w' ⟨rfl, rfl⟩)
            go_ret2
            exact ⟨rfl, below_rb hP.out (hb.out _), Kp.of_below (hb.out _)⟩
          · replace e8 : w.cell? ⟨g, i * 11 + 8, none⟩ = some (.bool true) := e8
            replace e9 : w.cell? ⟨g, i * 11 + 9, none⟩ = some (.bool true) := e9
            have hsd : En.side ⟨d, 2, 3, nth⟩ m = 0 := by unfold En.side; dsimp only; rw [if_neg pa, if_neg (fun h => pb h.1)]
            have hr : b.res m id = ((0, 5), b) := by rw [hres, hsd]; simp [En.open, En.asks]
            rw [hr]
            clear hres hr hsd hk0 hk3 hm1 hst pa pb
            replace cs := Lib.hid cs
            go_enter Tryd.func25, Tryd.ntmps25
            go_wp2_with (go_at_call 28; (with_reducible refine c.mono ?_); rintro e w' ⟨rfl, rfl⟩)
            go_ret2
            exact ⟨rfl, below_rb hP.out (hb.out _), Kp.of_below (hb.out _)⟩
        · rcases ha4 with rfl | rfl | rfl | rfl
          · replace e8 : w.cell? ⟨g, i * 11 + 8, none⟩ = some (.bool false) := e8
            replace e9 : w.cell? ⟨g, i * 11 + 9, none⟩ = some (.bool false) := e9
            have hsd : En.side ⟨d, 3, 0, nth⟩ m = 0 := by unfold En.side; dsimp only; rw [if_neg pa, if_neg (fun h => pb h.1)]
            have hr : b.res m id = ((0, 5), b) := by rw [hres, hsd]; simp [En.open, En.asks]
            rw [hr]
            clear hres hr hsd hk0 hk3 hm1 hst pa pb
            replace cs := Lib.hid cs
            go_enter Tryd.func25, Tryd.ntmps25
            go_wp2_with (go_at_call 28; (with_reducible refine c.mono ?_); rintro e w' ⟨rfl, rfl⟩)
            go_ret2
            exact ⟨rfl, below_rb hP.out (hb.out _), Kp.of_below (hb.out _)⟩
          · replace e8 : w.cell? ⟨g, i * 11 + 8, none⟩ = some (.bool true) := e8
            replace e9 : w.cell? ⟨g, i * 11 + 9, none⟩ = some (.bool false) := e9
            have hsd : En.side ⟨d, 3, 1, nth⟩ m = 0 := by unfold En.side; dsimp only; rw [if_neg pa, if_neg (fun h => pb h.1)]
            have hr : b.res m id = ((0, 5), b) := by rw [hres, hsd]; simp [En.open, En.asks]
            rw [hr]
            clear hres hr hsd hk0 hk3 hm1 hst pa pb
            replace cs := Lib.hid cs
            go_enter Tryd.func25, Tryd.ntmps25
            go_wp2_with (go_at_call 28; (with_reducible refine c.mono ?_); rintro e w' ⟨rfl, rfl⟩)
            go_ret2
            exact ⟨rfl, below_rb hP.out (hb.out _), Kp.of_below (hb.out _)⟩
          · replace e8 : w.cell? ⟨g, i * 11 + 8, none⟩ = some (.bool false) := e8
            replace e9 : w.cell? ⟨g, i * 11 + 9, none⟩ = some (.bool true) := e9
            have hsd : En.side ⟨d, 3, 2, nth⟩ m = 0 := by unfold En.side; dsimp only; rw [if_neg pa, if_neg (fun h => pb h.1)]
            have hr : b.res m id = ((0, 5), b) := by rw [hres, hsd]; simp [En.open, En.asks]
            rw [hr]
            clear hres hr hsd hk0 hk3 hm1 hst pa pb
            replace cs := Lib.hid cs
            go_enter Tryd.func25, Tryd.ntmps25
            go_wp2_with (go_at_call 28; (with_reducible refine c.mono ?_); rintro e w' ⟨rfl, rfl⟩)
            go_ret2
            exact ⟨rfl, below_rb hP.out (hb.out _), Kp.of_below (hb.out _)⟩
          · replace e8 : w.cell? ⟨g, i * 11 + 8, none⟩ = some (.bool true) := e8
            replace e9 : w.cell? ⟨g, i * 11 + 9, none⟩ = some (.bool true) := e9
            have hsd : En.side ⟨d, 3, 3, nth⟩ m = 0 := by unfold En.side; dsimp only; rw [if_neg pa, if_neg (fun h => pb h.1)]
            have hr : b.res m id = ((0, 5), b) := by rw [hres, hsd]; simp [En.open, En.asks]
            rw [hr]
            clear hres hr hsd hk0 hk3 hm1 hst pa pb
            replace cs := Lib.hid cs
            go_enter Tryd.func25, Tryd.ntmps25
            go_wp2_with (go_at_call 28; (with_reducible refine c.mono ?_); rintro e w' ⟨rfl, rfl⟩)
            go_ret2
            exact ⟨rfl, below_rb hP.out (hb.out _), Kp.of_below (hb.out _)⟩
        · rcases ha4 with rfl | rfl | rfl | rfl
          · replace e8 : w.cell? ⟨g, i * 11 + 8, none⟩ = some (.bool false) := e8
            replace e9 : w.cell? ⟨g, i * 11 + 9, none⟩ = some (.bool false) := e9
            have hsd : En.side ⟨d, 4, 0, nth⟩ m = 0 := by unfold En.side; dsimp only; rw [if_neg pa, if_neg (fun h => pb h.1)]
            have hr : b.res m id = ((0, 5), b) := by rw [hres, hsd]; simp [En.open, En.asks]
            rw [hr]
            clear hres hr hsd hk0 hk3 hm1 hst pa pb
            replace cs := Lib.hid cs
            go_enter Tryd.func25, Tryd.ntmps25
            go_wp2_with (go_at_call 28; (with_reducible refine c.mono ?_); rintro e w' ⟨rfl, rfl⟩)
            go_ret2
            exact ⟨rfl, below_rb hP.out (hb.out _), Kp.of_below (hb.out _)⟩
          · replace e8 : w.cell? ⟨g, i * 11 + 8, none⟩ = some (.bool true) := e8
            replace e9 : w.cell? ⟨g, i * 11 + 9, none⟩ = some (.bool false) := e9
            have hsd : En.side ⟨d, 4, 1, nth⟩ m = 0 := by unfold En.side; dsimp only; rw [if_neg pa, if_neg (fun h => pb h.1)]
            have hr : b.res m id = ((0, 5), b) := by rw [hres, hsd]; simp [En.open, En.asks]
            rw [hr]
            clear hres hr hsd hk0 hk3 hm1 hst pa pb
            replace cs := Lib.hid cs
            go_enter Tryd.func25, Tryd.ntmps25
            go_wp2_with (go_at_call 28; (with_reducible refine c.mono ?_); rintro e w' ⟨rfl, rfl⟩)
            go_ret2
            exact ⟨rfl, below_rb hP.out (hb.out _), Kp.of_below (hb.out _)⟩
          · replace e8 : w.cell? ⟨g, i * 11 + 8, none⟩ = some (.bool false) := e8
            replace e9 : w.cell? ⟨g, i * 11 + 9, none⟩ = some (.bool true) := e9
            have hsd : En.side ⟨d, 4, 2, nth⟩ m = 0 := by unfold En.side; dsimp only; rw [if_neg pa, if_neg (fun h => pb h.1)]
            have hr : b.res m id = ((0, 5), b) := by rw [hres, hsd]; simp [En.open, En.asks]
            rw [hr]
            clear hres hr hsd hk0 hk3 hm1 hst pa pb
            replace cs := Lib.hid cs
            go_enter Tryd.func25, Tryd.ntmps25
            go_wp2_with (go_at_call 28; (with_reducible refine c.mono ?_); rintro e w' ⟨rfl, rfl⟩)
            go_ret2
            exact ⟨rfl, below_rb hP.out (hb.out _), Kp.of_below (hb.out _)⟩
          · replace e8 : w.cell? ⟨g, i * 11 + 8, none⟩ = some (.bool true) := e8
            replace e9 : w.cell? ⟨g, i * 11 + 9, none⟩ = some (.bool true) := e9
            have hsd : En.side ⟨d, 4, 3, nth⟩ m = 0 := by unfold En.side; dsimp only; rw [if_neg pa, if_neg (fun h => pb h.1)]
            have hr : b.res m id = ((0, 5), b) := by rw [hres, hsd]; simp [En.open, En.asks]
            rw [hr]
            clear hres hr hsd hk0 hk3 hm1 hst pa pb
            replace cs := Lib.hid cs
            go_enter Tryd.func25, Tryd.ntmps25
            go_wp2_with (go_at_call 28; (with_reducible refine c.mono ?_); rintro e w' ⟨rfl, rfl⟩)
            go_ret2
            exact ⟨rfl, below_rb hP.out (hb.out _), Kp.of_below (hb.out _)⟩
end
end Go.Proofs.YtflbggehgjllcaaDoor
