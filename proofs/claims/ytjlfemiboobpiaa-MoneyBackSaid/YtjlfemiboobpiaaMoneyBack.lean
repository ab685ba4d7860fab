/- The walk of the law MoneyBack: it returns true for every two amounts and every slice of amounts. -/
import Derived.Test.YtjlfemiboobpiaaB2
import Derived.OwnWalk
import Derived.Deep.AppendSrc
import Derived.Laws.AppendOwn
namespace Go.Proofs.Ytjlfemiboobpiaa
open Go.RowKit
set_option linter.unusedVariables false

theorem Try.info2 : (Try.prog.info? 2).map (fun i => (i.zero, i.size, i.bytes)) = some (some (.int .i64 0), 1, 8) := by kernel_rfl

/-- a chain that goes through is the sum -/
theorem chain_sum : ∀ (zs : List Int) (a : Int), Amt a → (chainL a zs = (a + sumL zs, 0) ∧ Amt (a + sumL zs)) ∨ chainL a zs = (0, 3)
  | [], a, h => .inl ⟨by simp [chainL, sumL], by simpa [sumL] using h⟩
  | b :: r, a, h => by
    unfold chainL
    split
    · rename_i hf
      have := chain_sum r (a + b) hf
      simp only [sumL]
      rw [show a + (b + sumL r) = a + b + sumL r from by omega]
      exact this
    · exact .inr rfl

/-- an append whose run is known -/
theorem wpList_append_run {P : Program} {w : World} {ops : Array Oper} {rest : List Oper} {o : Oper} {a : Act} {Q : Exit → Act → World → Prop} (hgd : o.guard = none) (s x : Operand) (t t' : TypeId)
    (ho : o.op = .call { callee := .builtin .append, args := #[s, x], argTypes := #[t, t'] }) (v y v' : Value) (w' : World) (hs : a.eval s = v) (hx : a.eval x = y)
    (hr : (Builtin.append_ #[t, t'] o.type #[v, y]).run P w = .ok v' w') (h : wpList P ops Q rest (a.put o.dst v') w') : wpList P ops Q (o :: rest) a w :=
  wpList_plain hgd fun _ hK => by
    unfold Oper.wp execOp
    simp only [ho, resolve, invoke, builtin, Sem.run_bind, Sem.run_pure, Result.andThen_ok, List.map_toArray, List.map_cons, List.map_nil, hs, hx, hr]
    exact hK _ _ h

theorem addr_add (b off j : Nat) : (⟨b, off, none⟩ : Addr).add j = ⟨b, off + j, none⟩ := by unfold Addr.add; split <;> simp_all

/-- 'append' of a slice of amounts behind a new one of one amount -/
theorem append_behind (w : World) (a : Int) (p : Option Addr) (len cap : Nat) (zs : List Int) (ha : Amt a) (hs : Seq64 w p len zs) (hlen : len ≤ 1000) (hp : p = none → len = 0) :
    ∃ q n c w', (Builtin.append_ #[37, 37] 37 #[.slice (some ⟨w.heap.size, 0, none⟩) 1 1, .slice p len cap]).run Try.prog (w.alloc (.cells #[.int .i64 a] 2)) = .ok (.slice q n c) w' ∧
      Seq64 w' q n (a :: zs) ∧ Below w.heap.size w w' := by
  obtain ⟨hl, hz, hm, hc⟩ := hs
  obtain ⟨i0, hi, hz0, hz1, hz2⟩ := info_parts Try.info2
  have hrange : ∀ i, Amt ((a :: zs).getD i 0) := by
    intro i
    cases i with
    | zero => simpa using ha
    | succ i => simpa using hz i
  cases p with
  | none =>
    have h0 : len = 0 := hp rfl
    subst h0
    obtain rfl : zs = [] := List.eq_nil_of_length_eq_zero hl
    have hsrc := Src.ofNil (P := Try.prog) (w.alloc (.cells #[.int .i64 a] 2)) (size := i0.size) Try.underlying37 cap
    have hrun := run_append_room_src (w.alloc (.cells #[.int .i64 a] 2)) 37 37 37 2 i0 Try.underlying37 hi w.heap.size 0 1 1 (.slice none 0 cap) 0 [] hsrc (by omega) (by simp) (by simp)
    refine ⟨_, _, _, _, hrun, ⟨rfl, hrange, by omega, .inr ⟨w.heap.size, 0, rfl, ?_, ?_⟩⟩, ?_⟩
    · simp [World.setCells]
    · intro i h
      obtain rfl : i = 0 := by omega
      simp [World.setCells]
    · simp only [World.setCells]
      exact (Below.refl _ _).alloc (Nat.le_refl _) _
  | some ad =>
    have hown : (w.alloc (.cells #[.int .i64 a] 2)).ownsRow w.heap.size 2 1 (.slice (some ⟨w.heap.size, 0, none⟩) 1 1) 1 [.int .i64 a] :=
      ⟨rfl, .inr ⟨w.heap.size, 1, #[.int .i64 a], rfl, Nat.le_refl _, heap_alloc_new w _, by omega, by unfold maxLen; omega, rfl, rfl⟩⟩
    obtain ⟨v', w', hrun, hown', hgrow, hnil⟩ := run_append_own (P := Try.prog) (w.alloc (.cells #[.int .i64 a] 2)) w.heap.size 37 37 2 i0 (.int .i64 0) 1 8 Try.underlying37 hi hz0 hz1 hz2 rfl (by decide)
      (.slice (some ⟨w.heap.size, 0, none⟩) 1 1) 1 [.int .i64 a] hown ad len cap (zs.map (.int .i64)) (by simp [hl]) (by
        intro j u hu
        rw [List.getElem?_map] at hu
        obtain ⟨z, hz', rfl⟩ := Option.map_eq_some_iff.1 hu
        have hj : j < zs.length := (List.getElem?_eq_some_iff.1 hz').1
        obtain ⟨b, off, e, hlt, hcell⟩ := hc.resolve_left (by omega)
        simp only [Option.some.injEq] at e
        subst e
        rw [addr_add]
        have h1 := hcell j (by omega)
        rw [List.getD_eq_getElem?_getD, hz'] at h1
        have h2 : Below w.heap.size w (w.alloc (.cells #[.int .i64 a] 2)) := (Below.refl _ _).alloc (Nat.le_refl _) _
        exact (h2.cell (p := ⟨b, off + j, none⟩) hlt).trans h1) (by
        intro u hu
        obtain ⟨z, _, rfl⟩ := List.mem_map.1 hu
        rfl) (by unfold maxLen; omega) (by omega) (by simp)
    rcases hown'.2 with ⟨rfl, h0⟩ | ⟨g, cap', cur, rfl, hg, hh, hn, hcm, hcs, htake⟩
    · omega
    · refine ⟨_, _, _, w', hrun, ⟨by simp [hl]; omega, hrange, by omega, .inr ⟨g, 0, rfl, ?_, ?_⟩⟩, ?_⟩
      · have := (Array.getElem?_eq_some_iff.1 hh).1
        exact this
      · intro i hi'
        have hk := hown'.cells (g := g) rfl i (.int .i64 ((a :: zs).getD i 0)) (by
          rw [show [Value.int .i64 a] ++ zs.map (.int .i64) = (a :: zs).map (Value.int .i64) from rfl, List.getElem?_map, List.getElem?_eq_getElem (by simp [hl]; omega), List.getD_eq_getElem?_getD, List.getElem?_eq_getElem (by simp [hl]; omega)]
          rfl)
        rw [addr_add] at hk
        exact hk
      · refine ((Below.refl _ _).alloc (Nat.le_refl _) _).grown hgrow (by simp) (fun k hk => ?_)
        simp [Value.ownBlock] at hk
        omega

set_option maxRecDepth 100000 in
set_option maxHeartbeats 2000000 in
theorem back_long (a b : Int) (p : Option Addr) (len cap : Nat) (w : World) (h : 200 < len) :
    Calls Try.prog 6 #[.int .i64 a, .int .i64 b, .slice p len cap] w fun e w' => e = .returned (.bool true) ∧ Below w.heap.size w w' := by
  have h1 : (200 : Int) < (len : Int) := by omega
  go_enter Try.func6, Try.ntmps6
  go_wp2_with fail
  refine (awake_any _).mono ?_
  rintro e w1 ⟨rfl, hb1⟩
  go_wp2_with fail
  go_ret
  exact ⟨rfl, hb1⟩

set_option maxRecDepth 100000 in
set_option maxHeartbeats 4000000 in
theorem back_any (a b : Int) (p : Option Addr) (len cap : Nat) (zs : List Int) (w : World) (ha : Amt a) (hb : Amt b) (hs : Seq64 w p len zs) (hlen : len ≤ 200) (hp : p = none → len = 0) :
    Calls Try.prog 6 #[.int .i64 a, .int .i64 b, .slice p len cap] w fun e w' => e = .returned (.bool true) ∧ Below w.heap.size w w' := by
  obtain ⟨a0, a1⟩ := ha
  obtain ⟨b0, b1⟩ := hb
  have h1 : ¬ (200 : Int) < (len : Int) := by omega
  replace hs := Lib.hid hs
  replace hp := Lib.hid hp
  go_enter Try.func6, Try.ntmps6
  go_wp2_with fail
  refine (awake_any _).mono ?_
  rintro e w1 ⟨rfl, hb1⟩
  go_wp2_with fail
  refine (add_any _ _ _ a0 a1 b0 b1).mono ?_
  rintro e w2 ⟨rfl, hb2⟩
  replace hb2 := chain_trans hb1 hb2; clear hb1
  go_wp2_with fail
  refine (add_any _ _ _ b0 b1 a0 a1).mono ?_
  rintro e w3 ⟨rfl, hb3⟩
  replace hb3 := chain_trans hb2 hb3; clear hb2
  rw [Int.add_comm b a]
  go_wp2_with fail
  refine (mul_any _ _ _ a0 a1 b0 b1).mono ?_
  rintro e w4 ⟨rfl, hb4⟩
  replace hb4 := chain_trans hb3 hb4; clear hb3
  go_wp2_with fail
  refine (mul_any _ _ _ b0 b1 a0 a1).mono ?_
  rintro e w5 ⟨rfl, hb5⟩
  replace hb5 := chain_trans hb4 hb5; clear hb4
  rw [Int.mul_comm b a]
  replace hb5 := Lib.hid hb5
  generalize fitV (a * b) = m
  generalize fitE (a * b) = m'
  go_upto_if 69 with (fail)
  go_cut [7, 8, 9, 10, 15, 16] (fun _ _ _ _ _ _ wc => Below w.heap.size w wc)
  case first =>
    by_cases hf : -9223372036854775808 ≤ a + b ∧ a + b ≤ 9223372036854775807
    · rw [← (fit_yes (a + b) hf.1 hf.2).1, ← (fit_yes (a + b) hf.1 hf.2).2]
      go_wp2_with fail
      refine (sub_any _ _ _ hf.1 hf.2 b0 b1).mono ?_
      rintro e w6 ⟨rfl, hb6⟩
      replace hb6 := Lib.hid (chain_trans hb5.out hb6)
      rw [show a + b - b = a from by omega, ← (fit_yes a a0 a1).1, ← (fit_yes a a0 a1).2]
      go_wp2_with fail
      go_meet
      exact hb6.out
    · rw [← (fit_no (a + b) (by omega)).1, ← (fit_no (a + b) (by omega)).2]
      go_wp2_with fail
      go_meet
      exact hb5.out
  case rest =>
    have hs1 := Lib.hid (hs.out.kept hcut)
    replace hcut := Lib.hid hcut
    clear hb5
    go_wp2_with fail
    refine (chain_any a p len cap zs wc ⟨a0, a1⟩ hs1.out).mono ?_
    rintro e w6 ⟨rfl, hb6⟩
    have hs2 := Lib.hid (hs1.out.kept hb6)
    obtain ⟨q, n, c, w7, hrun, hs3, hb7⟩ := append_behind w6 a p len cap zs ⟨a0, a1⟩ hs2.out (by omega) hp.out
    replace hs3 := Lib.hid hs3
    replace hb7 := Lib.hid (chain_trans (chain_trans hcut.out hb6) hb7)
    clear hcut hb6 hs1 hs2
    have hch := chain_sum zs a ⟨a0, a1⟩
    generalize hcv : chainL a zs = cv at *
    replace hcv := Lib.hid hcv
    replace hrun := Lib.hid hrun
    go_wp2_with (at_builtin; refine wpList_append_run rfl _ _ _ _ rfl _ _ _ _ rfl rfl hrun.out ?_)
    refine (sum_any q n c (a :: zs) w7 hs3.out).mono ?_
    rintro e w8 ⟨rfl, hb8⟩
    replace hb8 := Lib.hid (chain_trans hb7.out hb8)
    clear hb7 hrun
    rcases hch with ⟨rfl, hr⟩ | rfl
    · rw [show sumL (a :: zs) = a + sumL zs from rfl, ← (fit_yes _ hr.1 hr.2).1, ← (fit_yes _ hr.1 hr.2).2]
      clear hr
      generalize a + sumL zs = v
      go_wp2_with fail
      go_ret
      exact ⟨rfl, hb8.out⟩
    · generalize fitV (sumL (a :: zs)) = v
      generalize fitE (sumL (a :: zs)) = v'
      go_wp2_with fail
      go_ret
      exact ⟨rfl, hb8.out⟩
end Go.Proofs.Ytjlfemiboobpiaa
