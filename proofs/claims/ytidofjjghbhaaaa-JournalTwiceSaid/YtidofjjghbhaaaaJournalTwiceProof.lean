/-
  Proved: nostrolaw06.JournalTwice returns true for every list of operations, any two fuses and any two rows of four numbers, and leaves its arguments as they were ('Rows.JournalTwiceSaid').
  Conditions: none.
-/
import Derived.Test.YtidofjjghbhaaaaRows
import Derived.WalkKit
import Derived.ProofKit
import Derived.OpenShut
import Derived.ShutString
import Derived.ChangeOld
import Derived.Below
import Derived.SizedLaws
import Derived.Test.YtidofjjghbhaaaaJournalTwice
import Derived.Test.YtidofjjghbhaaaaPC
namespace Go.Proofs.Ytidofjjghbhaaaa.journalTwice
open Go.ChangeShapes Go.WideShapes Go.ChangeAt Go.RowKit
open Go.ChangeMaps (open_string shut_string)
set_option linter.unusedVariables false

theorem own : ownKnob Try.prog.godebug = none := by kernel_rfl
theorem laidOut : laidOutB Try.prog = true := by kernel_rfl

theorem walk (a0 : Option Addr) (len0 cap0 : Nat) (z0 : Nat → JOp) (a1 b1 : Int) (K2 L2 : Nat → Int) (w : World) (w0 : JopRow w a0 len0 z0) (w1 : a1 ≤ 9223372036854775807) (x1 : b1 ≤ 9223372036854775807) (w2 : ∀ i, K2 i ≤ 9223372036854775807) (x2 : ∀ i, L2 i ≤ 9223372036854775807) :
    Calls Try.prog 6 #[.slice a0 len0 cap0, .agg #[.int .i64 a1, .int .i64 b1], .agg #[.int .i64 (K2 0), .int .i64 (K2 1), .int .i64 (K2 2), .int .i64 (K2 3), .int .i64 (L2 0), .int .i64 (L2 1), .int .i64 (L2 2), .int .i64 (L2 3)]] w fun e w' => e = .returned (.bool true) ∧ Below w.heap.size w w' :=
  jTwice_any a0 len0 cap0 z0 a1 b1 K2 L2 w w0 w1 x1 w2 x2

set_option maxRecDepth 100000 in
theorem lifted (os : Os) (started : os.Started) (H : Type) (enc : TypeId × Value → H) :
    ReturnsInHanded {} Try.checked os 6 .any (Rows.journalTwiceSpec.pre6 enc Try.prog Try.f6 Rows.journalTwiceRow.domain false) (Rows.journalTwiceSpec.post enc Try.prog Try.f6 false true false false) := by
  refine returnsInHanded_of_change_sized (C := Try.checked) own started (by kernel_rfl) Try.func6
    (ChangeSpec.witness6 (enc := enc) (C := Try.checked) false ⟨#[], #[.slice none 0 0, .agg #[.int .i64 0, .int .i64 0], .agg #[.int .i64 0, .int .i64 0, .int .i64 0, .int .i64 0, .int .i64 0, .int .i64 0, .int .i64 0, .int .i64 0]], []⟩ 8 (by kernel_rfl) (by kernel_rfl) (by kernel_rfl) (by kernel_rfl)) ?_
  intro W base args ds gs before hval0 hW hcnd hsz0 _
  have hval : ∀ (j : Nat) t v, Try.f6.params[j]? = some t → args[j]? = some v → Value.okWide Try.prog W .any base t v := hval0
  have hsz : (DataW.weightsEach Try.prog (Try.f6.params.toList ++ Rows.journalTwiceSpec.plain.varTypes Try.prog) (ds ++ gs)).all (· ≤ reachBytes) = true := hsz0
  have hW' := hW
  obtain ⟨p, q, hA0, hV, rfl, hfz, hnd⟩ := hW
  have hA : DataW.TrodAll enc Try.prog W 0 (fun _ => true) true Try.f6.params.toList args.toList ds p := hA0
  rw [Try.params6] at hA hval hsz
  obtain ⟨v0, vs0, d0, ds0, p0, q0, hargs, rfl, rfl, h0, r0⟩ := trodAll_cons hA
  obtain ⟨v1, vs1, d1, ds1, p1, q1, rfl, rfl, rfl, h1, r1⟩ := trodAll_cons r0
  obtain ⟨v2, vs2, d2, ds2, p2, q2, rfl, rfl, rfl, h2, r2⟩ := trodAll_cons r1
  obtain ⟨rfl, rfl, rfl⟩ := trodAll_nil r2
  obtain rfl : args = #[v0, v1, v2] := by cases args; simp_all
  obtain ⟨rfl, rfl⟩ := trodVars_none hV
  obtain ⟨a0, len0, cap0, rfl⟩ := okWide_slice Try.underlying23 (hval 0 23 v0 rfl rfl)
  have k0 := h0
  have lt0 : ∀ x ∈ p0, x.block < W.heap.size := by obtain ⟨m, hm⟩ := k0; exact DataW.trod_lt m _ _ _ hm
  obtain ⟨z0, w0⟩ : ∃ zs, JopRow W a0 len0 zs := by
    obtain ⟨fuel, hf⟩ := h0
    refine jops_open hf fun n hn => ?_
    have := List.all_eq_true.1 hsz n (DataW.weights_mem_each (j := 0) (t := 23) rfl rfl n hn)
    exact of_decide_eq_true this
  have o1 := hval 1 61 v1 rfl rfl
  unfold Value.okWide at o1
  rw [Try.underlying61] at o1
  obtain ⟨cs1, rfl, _, _⟩ := o1
  have k1 := h1
  have lt1 : ∀ x ∈ p1, x.block < W.heap.size := by obtain ⟨m, hm⟩ := k1; exact DataW.trod_lt m _ _ _ hm
  obtain ⟨a1, b1, hcs1, w1, x1⟩ : ∃ a b : Int, cs1 = #[.int .i64 a, .int .i64 b] ∧ a ≤ 9223372036854775807 ∧ b ≤ 9223372036854775807 := by
    obtain ⟨fuel, hf⟩ := h1
    obtain ⟨a, b, e, ha, hb⟩ := two_open hf
    exact ⟨a, b, by cases cs1; simp_all [Value.cells], ha, hb⟩
  subst hcs1
  have o2 := hval 2 62 v2 rfl rfl
  unfold Value.okWide at o2
  rw [Try.underlying62] at o2
  obtain ⟨cs2, rfl, _, _⟩ := o2
  have k2 := h2
  have lt2 : ∀ x ∈ p2, x.block < W.heap.size := by obtain ⟨m, hm⟩ := k2; exact DataW.trod_lt m _ _ _ hm
  obtain ⟨K2, L2, hcs2, w2, x2⟩ : ∃ K L : Nat → Int, cs2 = #[.int .i64 (K 0), .int .i64 (K 1), .int .i64 (K 2), .int .i64 (K 3), .int .i64 (L 0), .int .i64 (L 1), .int .i64 (L 2), .int .i64 (L 3)] ∧ (∀ i, K i ≤ 9223372036854775807) ∧ ∀ i, L i ≤ 9223372036854775807 := by
    obtain ⟨fuel, hf⟩ := h2
    obtain ⟨K, L, e, hK, hL⟩ := eight_open hf
    exact ⟨K, L, by cases cs2; simp_all [Value.cells], hK, hL⟩
  subst hcs2
  clear hA0 hval0
  refine (walk a0 len0 cap0 z0 a1 b1 K2 L2 W w0 w1 x1 w2 x2).mono fun e W' ⟨he, bel⟩ => ?_
  subst he
  exact ⟨_, rfl, _, _, _, [], _, [], hW', trodAll_mk1 (shut_bool Try.underlying4 _), (trodAll_cons_mk (Below.trod laidOut (by kernel_rfl) (of_decide_eq_true (by kernel_rfl)) k0 bel lt0) (trodAll_cons_mk (Below.trod laidOut (by kernel_rfl) (of_decide_eq_true (by kernel_rfl)) k1 bel lt1) (trodAll_cons_mk (Below.trod laidOut (by kernel_rfl) (of_decide_eq_true (by kernel_rfl)) k2 bel lt2) trodAll_mk0))), rfl, bel.frame _, fun h => by cases h⟩

theorem over : Rows.journalTwiceRow.holds Try.pinned (OpenSpec.ofChange Rows.journalTwiceSpec) :=
  OpenClaim.holds_of_wide 6 Try.f6 rfl rfl rfl rfl rfl rfl rfl ⟨rfl, rfl, rfl, rfl, rfl⟩ rfl rfl rfl rfl rfl (by kernel_rfl) Try.func6 (by kernel_rfl)
    (of_decide_eq_true (by kernel_rfl)) (by unfold Func.isWrapper; first | (rw [if_pos (by decide +kernel)]; kernel_rfl) | (rw [if_neg (by decide +kernel)]; exact ⟨rfl, rfl⟩))
    (fun os started H enc _ => lifted os started H enc)

/-- the statement -/
theorem proved : Rows.JournalTwiceSaid := over
#print axioms proved
end Go.Proofs.Ytidofjjghbhaaaa.journalTwice
