/- Rows of ints; the contract of Same; what Remove does, entry by entry. -/
import Derived.Test.YtflbggehgjllcaaDoorDI
namespace Go.Proofs.YtflbggehgjllcaaDoor
open Go.RowKit Go.Maps
set_option linter.unusedVariables false

/-- a row of ints -/
def IRow (w : World) (v : Value) (zs : List Int) : Prop := w.ownsRow 0 3 1 v zs.length (zs.map (Value.int .i64))
theorem IRow.at_ {w : World} {v : Value} {zs : List Int} (h : IRow w v zs) {g k : Nat} (hg : v.ownBlock = some g) (hk : k < zs.length) : w.cell? ⟨g, k, none⟩ = some (.int .i64 (zs.getD k 0)) := by
  refine orow_cell h hg ?_
  rw [List.getElem?_map, List.getElem?_eq_getElem hk, List.getD_eq_getElem?_getD, List.getElem?_eq_getElem hk]; rfl
theorem irow_obj {w : World} {v : Value} {zs : List Int} (h : IRow w v zs) {g : Nat} (hg : v.ownBlock = some g) : ∃ cur, w.heap[g]? = some (.cells cur 3 (0, 0)) := by
  rcases h.2 with ⟨rfl, _⟩ | ⟨g', cap, cur, rfl, _, hh, _⟩
  · simp [Value.ownBlock] at hg
  · simp [Value.ownBlock] at hg
    subst hg
    exact ⟨cur, hh⟩
section
variable {P : Nat → Prop} {w w' : World} {gb : Nat} {b : Bk} {v : Value} {mb : Nat} {D : DataW Value}
theorem PBv.irow_ne (h : PBv P w gb b v mb D) {u : Value} {zs : List Int} (hu : IRow w u zs) {g : Nat} (hg : u.ownBlock = some g) : g ≠ gb ∧ g ≠ mb ∧ v.ownBlock ≠ some g := by
  obtain ⟨cur, hc⟩ := irow_obj hu hg
  refine ⟨fun e => ?_, fun e => map_other h.map hc e, fun e => ?_⟩
  · subst e
    have := h.obj.symm.trans hc
    simp at this
  · obtain ⟨cap, cu, _, hh⟩ := h.row_obj e
    have := hh.symm.trans hc
    simp at this
theorem PBv.same (h : PBv P w gb b v mb D) (h1 : w'.heap[gb]? = w.heap[gb]?) (h2 : w'.heap[mb]? = w.heap[mb]?) (h3 : ∀ g, v.ownBlock = some g → w'.heap[g]? = w.heap[g]?) : PBv P w' gb b v mb D :=
  ⟨h1.trans h.obj, orow_kept h.row h3, own_block h.map h2, h.ix, h.pg, h.pm, h.pv⟩
/-- a row of ints beside it goes on -/
theorem PBv.grown (h : PBv P w gb b v mb D) {u : Value} {zs : List Int} (hu : IRow w u zs) (hg : w.grownBy w' u.ownBlock) : PBv P w' gb b v mb D := by
  have hn : ∀ j, j < w.heap.size → (∀ g, u.ownBlock = some g → g ≠ j) → w'.heap[j]? = w.heap[j]? := fun j hj hne => hg.block j hj fun e => hne j e.symm rfl
  exact h.same (hn gb h.lt fun g hg => (h.irow_ne hu hg).1) (hn mb h.map.lt fun g hg => (h.irow_ne hu hg).2.1) fun g hv => hn g (World.ownsRow.lt h.row g hv).2 fun g' hg' e => (h.irow_ne hu hg').2.2 (by rw [e]; exact hv)
end
theorem same_len {a b : List Int} (h : a.length ≠ b.length) : (a == b) = false := by
  rw [beq_eq_false_iff_ne]; intro e; exact h (by rw [e])
set_option maxHeartbeats 2000000 in
set_option maxRecDepth 100000 in
theorem same_any (u v : Value) (a b : List Int) (w : World) (ha : IRow w u a) (hb : IRow w v b) (hla : a.length ≤ 1000000) (hlb : b.length ≤ 1000000) :
    Calls Tryd.prog 13 #[u, v] w fun e w' => e = .returned (.bool (a == b)) ∧ ∃ n, w' = w.drewN n := by
  obtain ⟨p, ca, rfl, -, -, hpa⟩ := orow_shape ha
  obtain ⟨q, cb, rfl, -, -, hqb⟩ := orow_shape hb
  by_cases hl : a.length = b.length
  · have hz : (a.length : Int) = (b.length : Int) := by omega
    have hall : ∀ k, k < a.length → ∃ g h, p = some ⟨g, 0, none⟩ ∧ q = some ⟨h, 0, none⟩ ∧ w.cell? ⟨g, k, none⟩ = some (.int .i64 (a.getD k 0)) ∧ w.cell? ⟨h, k, none⟩ = some (.int .i64 (b.getD k 0)) := fun k hk => by
      obtain ⟨g, c1, cur, e1, _⟩ := orow_some ha (by omega)
      obtain ⟨h, c2, cur2, e2, _⟩ := orow_some hb (by omega)
      injection e1 with e1 _ _
      injection e2 with e2 _ _
      subst e1; subst e2
      exact ⟨g, h, rfl, rfl, ha.at_ rfl hk, hb.at_ rfl (by omega)⟩
    have hfin : (∀ k, k < a.length → a.getD k 0 = b.getD k 0) → (a == b) = true := fun h => by
      rw [beq_iff_eq]
      refine List.ext_getElem hl fun k h1 h2 => ?_
      have := h k h1
      simpa [List.getD_eq_getElem?_getD, List.getElem?_eq_getElem h1, List.getElem?_eq_getElem h2] using this
    have hno : ∀ k, k < a.length → ¬ a.getD k 0 = b.getD k 0 → (a == b) = false := fun k hk hne => by
      rw [beq_eq_false_iff_ne]; intro e; exact hne (by rw [e])
    replace hall := Lib.hid hall
    replace hfin := Lib.hid hfin
    replace hno := Lib.hid hno
    replace ha := Lib.hid ha
    replace hb := Lib.hid hb
    replace hpa := Lib.hid hpa
    replace hqb := Lib.hid hqb
    rw [← hl]
    generalize hn : a.length = n at *
    clear hz hl hn hlb
    go_enter Tryd.func13, Tryd.ntmps13
    go_wp2_with fail
    go_loopw [5] (fun i wr => ∃ k : Nat, k ≤ n ∧ i = .int .i64 (k : Int) ∧ Hid ((∀ j, j < k → a.getD j 0 = b.getD j 0) ∧ ∃ m, wr = w.drewN m)) (fun i _ => n - (intOf i).toNat)
    case atStart => exact ⟨0, by omega, rfl, Lib.hid ⟨fun j hj => by omega, 0, rfl⟩⟩
    case round =>
      obtain ⟨k, hk, rfl, hS⟩ := hrel
      by_cases hkn : k < n
      · obtain ⟨g, h, rfl, rfl, c1, c2⟩ := hall.out k hkn
        obtain ⟨hS1, m, rfl⟩ := hS.out
        replace hS1 := Lib.hid hS1
        have hkz : (k : Int) < (n : Int) := by omega
        obtain ⟨x, hx⟩ : ∃ x, a.getD k 0 = x := ⟨_, rfl⟩
        obtain ⟨y, hy⟩ : ∃ y, b.getD k 0 = y := ⟨_, rfl⟩
        rw [hx] at c1
        rw [hy] at c2
        replace hx := Lib.hid hx
        replace hy := Lib.hid hy
        by_cases he : x = y
        · have hq : (x != y) = false := by simp [he]
          replace he := Lib.hid he
          go_upto_region 6 with (fail)
          go_quiet (fail)
          go_wp2_with fail
          go_roundw
          case rel =>
            refine ⟨k + 1, by omega, by go_num, Lib.hid ⟨fun j hj => ?_, _, rfl⟩⟩
            by_cases e : j = k
            · rw [e, hx.out, hy.out, he.out]
            · exact hS1.out j (by omega)
          case measure => simp [intOf]; omega
        · have hq : (x != y) = true := by simpa using he
          have hr := Lib.hid (hno.out k hkn (by rw [hx.out, hy.out]; exact he))
          go_upto_region 6 with (fail)
          go_quiet (fail)
          go_wp2_with fail
          go_ret
          exact ⟨by rw [hr.out]; rfl, m + nq, by simp⟩
      · obtain ⟨hS1, m, rfl⟩ := hS.out
        have hr := Lib.hid (hfin.out fun j hj => hS1 j (by omega))
        have hkz : ¬ (k : Int) < (n : Int) := by omega
        replace hS1 := Lib.hid hS1
        go_wp2_with fail
        go_ret
        exact ⟨by rw [hr.out]; rfl, _, rfl⟩
  · have hq : ((a.length : Int) != (b.length : Int)) = true := by simp; omega
    rw [same_len hl]
    clear ha hb hpa hqb
    generalize a.length = n at *
    generalize b.length = m at *
    have hq2 : (n != m) = true := by simp; omega
    go_enter Tryd.func13, Tryd.ntmps13
    go_wp2_with fail
    go_ret
    exact ⟨rfl, 0, rfl⟩
end Go.Proofs.YtflbggehgjllcaaDoor
