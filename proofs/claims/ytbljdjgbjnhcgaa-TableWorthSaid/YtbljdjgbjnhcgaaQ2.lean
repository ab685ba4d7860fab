/- The contracts of the reference's Find, With and Same. -/
import Derived.Test.YtbljdjgbjnhcgaaQ1
import Derived.Test.YtbljdjgbjnhcgaaP6
import Derived.Laws.StructEq
namespace Go.Proofs.Ytbljdjgbjnhcgaa
open Go.RowKit
set_option linter.unusedVariables false

set_option maxHeartbeats 1000000 in
set_option maxRecDepth 100000 in
theorem findR_any (p : Option Addr) (len cap : Nat) (cs : List Cur) (s : ByteArray) (w : World) (hs : Tab w p len cs) :
    Calls Try.prog 10 #[.slice p len cap, .string s] w fun e w' => e = .returned (.tuple #[.int .i64 (findV (findIx s cs)), .bool (findIx s cs).isSome]) ∧ w = w' := by
  obtain ⟨hl, hz, hm, hcells⟩ := hs
  replace hl := Lib.hid hl
  replace hz := Lib.hid hz
  replace hcells := Lib.hid hcells
  go_enter Try.func10, Try.ntmps10
  go_wp2_with fail
  go_loop [6] (fun i => ∃ k : Nat, k ≤ len ∧ i = .int .i64 k ∧ ∀ i, i < k → (cAt cs i).code ≠ s) (fun i => len - (intOf i).toNat)
  case atStart => exact ⟨0, by omega, rfl, fun i hi => by omega⟩
  case round =>
    obtain ⟨k, hk, rfl, hall⟩ := hrel
    replace hall := Lib.hid hall
    by_cases hlt : k < len
    · obtain ⟨b, off, rfl, hblt, hc⟩ := hcells.out.resolve_left (by omega)
      obtain ⟨c0, _, _⟩ := hc k hlt
      clear hc
      by_cases he : (cAt cs k).code = s
      · have hfin := Lib.hid (findIx_some s cs k (by rw [hl.out]; exact hlt) he hall.out)
        rw [he] at c0
        clear he
        go_wp2_with fail
        go_ret2
        exact ⟨by rw [hfin.out]; rfl, rfl⟩
      · have hne := str_ne he
        replace he := Lib.hid he
        go_wp2_with fail
        go_round
        case rel =>
          refine ⟨k + 1, by omega, by go_num, fun i hi => ?_⟩
          by_cases e : i = k
          · subst e; exact he.out
          · exact hall.out i (by omega)
        case measure => simp [intOf]; omega
    · have hfin := Lib.hid (findIx_none s cs (fun i hi => hall.out i (by rw [hl.out] at hi; omega)))
      go_wp2_with fail
      go_ret2
      exact ⟨by rw [hfin.out]; rfl, rfl⟩

theorem eq30a : Try.prog.underlying 30 = some (.struct (Try.prog.fieldsOf 30)) := by kernel_rfl
theorem eq30b : Try.prog.stoodInHeld 30 = false := by kernel_rfl
theorem eq30c : Try.prog.eqGuardType Try.prog.depth 30 = false := by kernel_rfl
theorem eq30d : Try.prog.fieldsOf 30 = #[⟨"Code", 9, 0, false, "", "", 0⟩, ⟨"Rate", 2, 1, false, "", "", 16⟩, ⟨"Haircut", 2, 2, false, "", "", 24⟩] := by kernel_rfl

theorem neq_cur (s : ByteArray) (r h : Int) (w : World) : (binOp .neq 30 (.agg #[.string s, .int .i64 r, .int .i64 h]) (.agg #[.string s, .int .i64 r, .int .i64 h])).run Try.prog w = .ok (.bool false) w := by
  have e0 := Try.underlying9
  have e1 := Try.underlying2
  rw [run_neq_struct, run_equalIn_agg w 9999 30 _ _ eq30a eq30b, eq30d]
  simp [Op.eqFields, go_sem, e0, e1]

theorem set_both {cs : List Cur} {k : Nat} (hk : k < cs.length) (x y : Int) :
    (cs.set k { cAt cs k with rate := x }).set k { cAt (cs.set k { cAt cs k with rate := x }) k with cut := y } = cs.set k ⟨(cAt cs k).code, x, y⟩ := by
  have e : cAt (cs.set k { cAt cs k with rate := x }) k = { cAt cs k with rate := x } := by
    unfold cAt; rw [List.getD_eq_getElem?_getD, List.getElem?_set_self hk]; rfl
  rw [e, List.set_set]
end Go.Proofs.Ytbljdjgbjnhcgaa
