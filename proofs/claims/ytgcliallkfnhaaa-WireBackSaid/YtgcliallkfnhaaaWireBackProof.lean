/-
  Proved: nostrolaw07.WireBack returns true for every command, every reply and every text, and leaves its arguments as they were ('Rows.WireBackSaid').
  Conditions: none.
-/
import Derived.Test.YtgcliallkfnhaaaRows
import Derived.WalkKit
import Derived.ProofKit
import Derived.OpenShut
import Derived.ShutString
import Derived.ChangeOld
import Derived.Below
import Derived.SizedLaws
import Derived.Test.YtgcliallkfnhaaaUL
namespace Go.Proofs.Ytgcliallkfnhaaa.wireBack
open Go.ChangeShapes Go.WideShapes Go.ChangeAt Go.RowKit
open Go.ChangeMaps (open_string shut_string)
set_option linter.unusedVariables false

theorem own : ownKnob Try.prog.godebug = none := by kernel_rfl
theorem laidOut : laidOutB Try.prog = true := by kernel_rfl

theorem walk (c0 : Cmd) (r1 : Rep) (p1p : Option Addr) (cap1 : Nat) (a2 : ByteArray) (w : World) (w0 : c0.In) (w1 : (-9223372036854775808 ≤ r1.Value ∧ r1.Value ≤ 9223372036854775807) ∧ ZRow w p1p r1.Ids.length r1.Ids ∧ r1.Ids.length ≤ 4611686018427387904) (w2 : a2.size ≤ 140737488351232) :
    Calls Try.prog 5 #[.agg c0.arr, .agg (repArr r1 p1p cap1), .string a2] w fun e w' => e = .returned (.bool true) ∧ Below w.heap.size w w' :=
  wireBackF c0 r1 p1p cap1 a2 w w0 w1 w2

set_option maxRecDepth 100000 in
theorem lifted (os : Os) (started : os.Started) (H : Type) (enc : TypeId × Value → H) :
    ReturnsInHanded {} Try.checked os 5 .any (Rows.wireBackSpec.pre6 enc Try.prog Try.f5 Rows.wireBackRow.domain false) (Rows.wireBackSpec.post enc Try.prog Try.f5 false true false false) := by
  refine returnsInHanded_of_change_sized (C := Try.checked) own started (by kernel_rfl) Try.func5
    (ChangeSpec.witness6 (enc := enc) (C := Try.checked) false ⟨#[], #[.agg #[.int .i64 0, .int .i64 0, .int .i64 0, .int .i64 0, .int .i64 0, .int .i64 0, .int .i64 0, .int .i64 0], .agg #[.int .i64 0, .int .i64 0, .slice none 0 0], .string ⟨#[]⟩], []⟩ 8 (by kernel_rfl) (by kernel_rfl) (by kernel_rfl) (by kernel_rfl)) ?_
  intro W base args ds gs before hval0 hW hcnd hsz0 _
  have hval : ∀ (j : Nat) t v, Try.f5.params[j]? = some t → args[j]? = some v → Value.okWide Try.prog W .any base t v := hval0
  have hsz : (DataW.weightsEach Try.prog (Try.f5.params.toList ++ Rows.wireBackSpec.plain.varTypes Try.prog) (ds ++ gs)).all (· ≤ reachBytes) = true := hsz0
  have hW' := hW
  obtain ⟨p, q, hA0, hV, rfl, hfz, hnd⟩ := hW
  have hA : DataW.TrodAll enc Try.prog W 0 (fun _ => true) true Try.f5.params.toList args.toList ds p := hA0
  rw [Try.params5] at hA hval hsz
  obtain ⟨v0, vs0, d0, ds0, p0, q0, hargs, rfl, rfl, h0, r0⟩ := trodAll_cons hA
  obtain ⟨v1, vs1, d1, ds1, p1, q1, rfl, rfl, rfl, h1, r1⟩ := trodAll_cons r0
  obtain ⟨v2, vs2, d2, ds2, p2, q2, rfl, rfl, rfl, h2, r2⟩ := trodAll_cons r1
  obtain ⟨rfl, rfl, rfl⟩ := trodAll_nil r2
  obtain rfl : args = #[v0, v1, v2] := by cases args; simp_all
  obtain ⟨rfl, rfl⟩ := trodVars_none hV
  have o0 := hval 0 23 v0 rfl rfl
  unfold Value.okWide at o0
  rw [und23] at o0
  obtain ⟨cs0, rfl, _⟩ := o0
  have k0 := h0
  have lt0 : ∀ x ∈ p0, x.block < W.heap.size := by obtain ⟨m, hm⟩ := k0; exact DataW.trod_lt m _ _ _ hm
  obtain ⟨c0, hcs0, w0⟩ : ∃ c : Cmd, cs0 = c.arr ∧ c.In := by
    obtain ⟨fuel, hf⟩ := h0
    obtain ⟨c, e, hc⟩ := cmd_open hf
    exact ⟨c, Array.toList_inj.1 (by simpa [Value.cells] using e), hc⟩
  subst hcs0
  have o1 := hval 1 40 v1 rfl rfl
  unfold Value.okWide at o1
  rw [und40] at o1
  obtain ⟨cs1, rfl, ok1⟩ := o1
  have k1 := h1
  have lt1 : ∀ x ∈ p1, x.block < W.heap.size := by obtain ⟨m, hm⟩ := k1; exact DataW.trod_lt m _ _ _ hm
  obtain ⟨rr1, pp1, cap1, hcs1, w1⟩ : ∃ (r : Rep) (p : Option Addr) (cap : Nat), cs1 = repArr r p cap ∧ (-9223372036854775808 ≤ r.Value ∧ r.Value ≤ 9223372036854775807) ∧ ZRow W p r.Ids.length r.Ids ∧ r.Ids.length ≤ 4611686018427387904 := by
    obtain ⟨fuel, hf⟩ := h1
    obtain ⟨r, p, cap, e, hr⟩ := rep_open hf fun n hn => of_decide_eq_true (List.all_eq_true.1 hsz n (DataW.weights_mem_each (j := 1) (t := 40) rfl rfl n hn))
    exact ⟨r, p, cap, Array.toList_inj.1 (by simpa [Value.cells] using e), hr⟩
  subst hcs1
  obtain ⟨a2, rfl, rfl, rfl, m2⟩ := open_string Try.underlying9 (hval 2 9 v2 rfl rfl) h2
  have w2 : a2.size ≤ 140737488351232 := by
    have h := sized_string hsz (j := 2) (t := 9) rfl rfl
    rw [Array.length_toList] at h
    exact h
  clear hA0 hval0
  refine (walk c0 rr1 pp1 cap1 a2 W w0 w1 w2).mono fun e W' ⟨he, bel⟩ => ?_
  subst he
  exact ⟨_, rfl, _, _, _, [], _, [], hW', trodAll_mk1 (shut_bool Try.underlying4 _), (trodAll_cons_mk (Below.trod laidOut (by kernel_rfl) (of_decide_eq_true (by kernel_rfl)) k0 bel lt0) (trodAll_cons_mk (Below.trod laidOut (by kernel_rfl) (of_decide_eq_true (by kernel_rfl)) k1 bel lt1) (trodAll_cons_mk (shut_string Try.underlying9 m2) trodAll_mk0))), rfl, bel.frame _, fun h => by cases h⟩

theorem over : Rows.wireBackRow.holds Try.pinned (OpenSpec.ofChange Rows.wireBackSpec) :=
  OpenClaim.holds_of_wide 5 Try.f5 rfl rfl rfl rfl rfl rfl rfl ⟨rfl, rfl, rfl, rfl, rfl⟩ rfl rfl rfl rfl rfl (by kernel_rfl) Try.func5 (by kernel_rfl)
    (of_decide_eq_true (by kernel_rfl)) (by unfold Func.isWrapper; first | (rw [if_pos (by decide +kernel)]; kernel_rfl) | (rw [if_neg (by decide +kernel)]; exact ⟨rfl, rfl⟩))
    (fun os started H enc _ => lifted os started H enc)

/-- the statement -/
theorem proved : Rows.WireBackSaid := over
#print axioms proved
end Go.Proofs.Ytgcliallkfnhaaa.wireBack
