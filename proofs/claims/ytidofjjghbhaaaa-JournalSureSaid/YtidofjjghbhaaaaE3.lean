/- The contracts of lay, and of the power's methods. -/
import Derived.Test.YtidofjjghbhaaaaE2
namespace Go.Proofs.Ytidofjjghbhaaaa
open Go.RowKit
set_option linter.unusedVariables false

theorem Try.infoByte : (Try.prog.info? 5).map (fun i => (i.zero, i.size, i.bytes)) = some (some (.int .u8 0), 1, 1) := by kernel_rfl

/-- bytes behind a row's: where they lie -/
theorem lay_run (w : World) (v : Value) (l : List UInt8) (s : ByteArray) (h : Row w v l) (hs : l.length + s.size ≤ 16777216) :
    ∃ v' w', (Builtin.append_ #[67, 9] 67 #[v, .string s]).run Try.prog w = .ok v' w' ∧ Row w' v' (l ++ bl s) ∧ w.grownBy w' v.ownBlock ∧ (∀ g, v'.ownBlock = some g → v.ownBlock = some g ∨ w.heap.size ≤ g) := by
  obtain ⟨i, hi, hz0, hz1, hz2⟩ := info_parts Try.infoByte
  obtain ⟨v', w', hr, ho, hg, _⟩ := Lib.run_append_own_string (P := Try.prog) w 0 67 9 67 5 i Try.underlying67 Try.underlying9 hi hz0 hz1 hz2 v l.length _ h s (by unfold maxLen; omega) (by omega) (by omega)
  have hrow : Row w' v' (l ++ bl s) := by
    unfold Row
    rw [List.length_append, bl_length]
    have e : Lib.byteCells (l ++ bl s) = Lib.byteCells l ++ Lib.strCells s := by simp [Lib.byteCells, Lib.strCells]
    rw [e]; exact ho
  refine ⟨v', w', hr, hrow, hg, fun g hv => ?_⟩
  rcases h.2 with ⟨rfl, h0⟩ | ⟨g', cap, cur, rfl, hb, hh, hn, hc, hcs, ht⟩
  · obtain ⟨v2, w2, hr2, ho2, _⟩ := Lib.run_append_own_string (P := Try.prog) w w.heap.size 67 9 67 5 i Try.underlying67 Try.underlying9 hi hz0 hz1 hz2 (.slice none 0 0) 0 [] (World.ownsRow_nil w _ 5 1) s (by unfold maxLen; omega) (by omega) (by omega)
    rw [hr] at hr2
    injection hr2 with e1 e2
    subst e1; subst e2
    exact .inr (World.ownsRow.lt ho2 g hv).1
  · by_cases hroom : l.length + s.size ≤ cap
    · have hr2 := Lib.run_append_room_string (P := Try.prog) w 67 9 67 5 i Try.underlying67 Try.underlying9 hi hz1 g' l.length cap cur hh s hroom (by omega)
      rw [hr] at hr2
      injection hr2 with e1 e2
      subst e1
      exact .inl hv
    · have holds : ∀ j u, (Lib.byteCells l)[j]? = some u → w.cell? ((⟨g', 0, none⟩ : Addr).add j) = some u := World.ownsRow.cells h (g := g') rfl
      have hr2 := Lib.run_append_grow_string (P := Try.prog) w 67 9 67 5 i (.int .u8 0) Try.underlying67 Try.underlying9 hi hz0 ⟨g', 0, none⟩ l.length cap (Lib.byteCells l) (by rw [hz1]; simp [Lib.byteCells]) holds s (by omega) (by omega) (by rw [hz2]; exact growslice_fits (by omega) (by omega))
      rw [hr] at hr2
      injection hr2 with e1 e2
      subst e1
      simp [Value.ownBlock] at hv
      exact .inr (by omega)

theorem wpList_lay {ops : Array Oper} {rest : List Oper} {o : Oper} {a : Act} {w : World} {Q : Exit → Act → World → Prop} (hgd : o.guard = none) (sl x : Operand) (hty : o.type = 67)
    (ho : o.op = .call { callee := .builtin .append, args := #[sl, x], argTypes := #[67, 9] })
    (v : Value) (l : List UInt8) (hs : a.eval sl = v) (hrow : Row w v l) (s : ByteArray) (hx : a.eval x = .string s) (hb : l.length + s.size ≤ 16777216)
    (h : ∀ v' w', Row w' v' (l ++ bl s) → w.grownBy w' v.ownBlock → (∀ g, v'.ownBlock = some g → v.ownBlock = some g ∨ w.heap.size ≤ g) → wpList Try.prog ops Q rest (a.put o.dst v') w') : wpList Try.prog ops Q (o :: rest) a w := by
  refine wpList_plain hgd fun K hK => ?_
  obtain ⟨v', w', hr, h2, h3, h4⟩ := lay_run w v l s hrow hb
  unfold Oper.wp execOp
  simp only [ho, hty, resolve, invoke, builtin, Sem.run_bind, Sem.run_pure, Result.andThen_ok, List.map_toArray, List.map_cons, List.map_nil, hs, hx, hr]
  exact hK _ _ (h v' w' h2 h3 h4)

set_option maxHeartbeats 1000000 in
set_option maxRecDepth 100000 in
theorem lay_any (b o : Nat) (v : Value) (l : List UInt8) (s : ByteArray) (w : World) (h0 : w.cell? ⟨b, o, none⟩ = some v) (hz0 : w.frozen? ⟨b, o, none⟩ = false) (hr : Row w v l) (hvb : v.ownBlock ≠ some b) (hs : l.length + s.size ≤ 16777216) :
    Calls Try.prog 34 #[.pointer (some ⟨b, o, none⟩), .string s] w fun e w' => e = .returned (.tuple #[]) ∧ ∃ v' w1, w' = w1.setCell ⟨b, o, none⟩ v' ∧ Row w1 v' (l ++ bl s) ∧ w.grownBy w1 v.ownBlock ∧ (∀ g, v'.ownBlock = some g → v.ownBlock = some g ∨ w.heap.size ≤ g) := by
  obtain ⟨p, cap, hv, _, _⟩ := hr.shape
  generalize hn : l.length = n at *
  replace hr := Lib.hid hr
  replace hn := Lib.hid hn
  subst hv
  go_enter Try.func34, Try.ntmps34
  go_wp2_with (at_builtin; refine wpList_lay rfl _ _ rfl rfl _ l rfl hr.out s rfl (by rw [hn.out]; exact hs) ?_)
  intro v' w1 hr' hg hv'
  have c0 := hg.cell h0 (by exact fun e => hvb e.symm)
  have z0 : w1.frozen? ⟨b, o, none⟩ = false := (World.frozen?_of_block (w := w) (hg.block b (World.block_lt_of_cell? w _ h0) (fun e => hvb e.symm))).trans hz0
  obtain ⟨p', cap', rfl, _, _⟩ := hr'.shape
  generalize (l ++ bl s).length = n' at *
  replace hr' := Lib.hid hr'
  replace hg := Lib.hid hg
  replace hv' := Lib.hid hv'
  go_wp2_with fail
  go_end0
  exact ⟨rfl, _, w1, rfl, hr'.out, hg.out, hv'.out⟩

set_option maxHeartbeats 1000000 in
set_option maxRecDepth 100000 in
theorem has_any (f : Int) (w : World) : Calls Try.prog 30 #[.int .i64 f] w fun e w' => e = .returned (.bool (isFile f)) ∧ w = w' := by
  by_cases h1 : 0 ≤ f
  · by_cases h2 : f < 4
    · have e : isFile f = true := by unfold isFile; simp; omega
      rw [e]
      go_enter Try.func30, Try.ntmps30
      go_wp2_with fail
      go_ret
      exact ⟨rfl, rfl⟩
    · have e : isFile f = false := by unfold isFile; simp; omega
      rw [e]
      go_enter Try.func30, Try.ntmps30
      go_wp2_with fail
      go_ret
      exact ⟨rfl, rfl⟩
  · have e : isFile f = false := by unfold isFile; simp; omega
    rw [e]
    go_enter Try.func30, Try.ntmps30
    go_wp2_with fail
    go_ret
    exact ⟨rfl, rfl⟩

set_option maxHeartbeats 1000000 in
set_option maxRecDepth 100000 in
theorem setFuse_any (b o : Nat) (n : Int) (u : Value) (w : World) (h1 : w.cell? ⟨b, o + 1, none⟩ = some u) (hz : w.frozen? ⟨b, o + 1, none⟩ = false) :
    Calls Try.prog 51 #[.pointer (some ⟨b, o, none⟩), .int .i64 n] w fun e w' => e = .returned (.tuple #[]) ∧ w' = w.setCell ⟨b, o + 1, none⟩ (.int .i64 (max n (-1))) := by
  have hmx := fun w => max2_run n (-1) w
  generalize max n (-1) = q at *
  go_enter Try.func51, Try.ntmps51
  go_wp2_with fail
  go_end0
  exact ⟨rfl, rfl⟩

/-- is there power for one more? -/
def pw (gone : Bool) (f : Int) : Bool := !gone && decide (f ≠ 0)
/-- the world behind burning -/
def burntW (w : World) (b o : Nat) (gone : Bool) (f : Int) : World :=
  if f = 0 then w.setCell ⟨b, o, none⟩ (.bool true) else if gone = true then w else if f = -1 then w else w.setCell ⟨b, o + 1, none⟩ (.int .i64 (f - 1))

set_option maxHeartbeats 1000000 in
set_option maxRecDepth 100000 in
theorem burn_any (b o : Nat) (gone : Bool) (f : Int) (w : World) (h0 : w.cell? ⟨b, o, none⟩ = some (.bool gone)) (h1 : w.cell? ⟨b, o + 1, none⟩ = some (.int .i64 f))
    (hz0 : w.frozen? ⟨b, o, none⟩ = false) (hz : w.frozen? ⟨b, o + 1, none⟩ = false) (hf : -1 ≤ f ∧ f ≤ 9223372036854775807) :
    Calls Try.prog 72 #[.pointer (some ⟨b, o, none⟩)] w fun e w' => e = .returned (.bool (pw gone f)) ∧ w' = burntW w b o gone f := by
  obtain ⟨hf0, hf1⟩ := hf
  by_cases e0 : f = 0
  · have e1 : pw gone f = false := by unfold pw; simp [e0]
    have e2 : burntW w b o gone f = w.setCell ⟨b, o, none⟩ (.bool true) := if_pos e0
    rw [e1, e2]
    subst e0
    clear e1 e2
    go_enter Try.func72, Try.ntmps72
    go_wp2_with fail
    go_ret
    exact ⟨rfl, rfl⟩
  · have hb0 : (f == 0) = false := by simpa using e0
    cases gone with
    | true =>
      have e1 : pw true f = false := rfl
      have e2 : burntW w b o true f = w := by unfold burntW; rw [if_neg e0, if_pos rfl]
      rw [e1, e2]
      clear e1 e2
      go_enter Try.func72, Try.ntmps72
      go_wp2_with fail
      go_ret
      exact ⟨rfl, rfl⟩
    | false =>
      have e3 : pw false f = true := by unfold pw; simp [e0]
      by_cases e1 : f = -1
      · have e2 : burntW w b o false f = w := by unfold burntW; rw [if_neg e0, if_neg (by simp), if_pos e1]
        rw [e3, e2]
        clear e2 e3
        subst e1
        go_enter Try.func72, Try.ntmps72
        go_wp2_with fail
        go_ret
        exact ⟨rfl, rfl⟩
      · have e2 : burntW w b o false f = w.setCell ⟨b, o + 1, none⟩ (.int .i64 (f - 1)) := by unfold burntW; rw [if_neg e0, if_neg (by simp), if_neg e1]
        rw [e3, e2]
        clear e2 e3
        have hb1 : (f != -1) = true := by simpa using e1
        have hw : IntKind.i64.wrap (f - 1) = f - 1 := by rw [IntKind.wrap_i64]; omega
        go_enter Try.func72, Try.ntmps72
        go_wp2_with fail
        go_ret
        exact ⟨rfl, rfl⟩
end Go.Proofs.Ytidofjjghbhaaaa
