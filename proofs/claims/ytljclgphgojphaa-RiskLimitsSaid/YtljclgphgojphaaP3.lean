/- The contracts of table's Find, twice, Check, and of slices.IndexFunc and ContainsFunc. -/
import Derived.Test.YtljclgphgojphaaP2
namespace Go.Proofs.Ytljclgphgojphaa
open Go.RowKit
set_option linter.unusedVariables false

/-- the first place of a code -/
def findIx (s : ByteArray) : List Cur → Option Nat
  | [] => none
  | c :: r => if c.code = s then some 0 else (findIx s r).map (· + 1)
theorem findIx_some (s : ByteArray) : ∀ (cs : List Cur) (k : Nat), k < cs.length → (cAt cs k).code = s → (∀ i, i < k → (cAt cs i).code ≠ s) → findIx s cs = some k
  | [], k, h, _, _ => by simp at h
  | c :: r, 0, _, h, _ => by
    have h' : c.code = s := h
    simp [findIx, h']
  | c :: r, k + 1, hl, h, hn => by
    have h0 : ¬ c.code = s := hn 0 (by omega)
    have ih := findIx_some s r k (by simpa using hl) h (fun i hi => hn (i + 1) (by omega))
    simp [findIx, h0, ih]
theorem findIx_none (s : ByteArray) : ∀ (cs : List Cur), (∀ i, i < cs.length → (cAt cs i).code ≠ s) → findIx s cs = none
  | [], _ => rfl
  | c :: r, hn => by
    have h0 : ¬ c.code = s := hn 0 (by simp)
    have ih := findIx_none s r (fun i hi => hn (i + 1) (by simpa using hi))
    simp [findIx, h0, ih]
theorem str_ne {a b : ByteArray} (h : ¬ a = b) : (a.toList == b.toList) = false := by
  rw [ByteArray.toList_eq, ByteArray.toList_eq, beq_eq_false_iff_ne]
  exact fun e => h (Go.WideShapes.bytes_inj e)
def findV (o : Option Nat) : Int := match o with | some k => k | none => 0

set_option maxHeartbeats 1000000 in
set_option maxRecDepth 100000 in
theorem find_any (p : Option Addr) (len cap : Nat) (cs : List Cur) (s : ByteArray) (w : World) (hs : Tab w p len cs) :
    Calls Try.prog 90 #[.slice p len cap, .string s] w fun e w' => e = .returned (.tuple #[.int .i64 (findV (findIx s cs)), .bool (findIx s cs).isSome]) ∧ Below w.heap.size w w' := by
  obtain ⟨hl, hz, hm, hcells⟩ := hs
  replace hl := Lib.hid hl
  replace hz := Lib.hid hz
  replace hcells := Lib.hid hcells
  go_enter Try.func90, Try.ntmps90
  go_wp2_with fail
  go_loopw [10] (fun i wr => ∃ k : Nat, k ≤ len ∧ i = .int .i64 k ∧ Below w.heap.size w wr ∧ ∀ i, i < k → (cAt cs i).code ≠ s) (fun i _ => len - (intOf i).toNat)
  case atStart => exact ⟨0, by omega, rfl, Below.refl _ _, fun i hi => by omega⟩
  case round =>
    obtain ⟨k, hk, rfl, hb, hall⟩ := hrel
    replace hall := Lib.hid hall
    by_cases hlt : k < len
    · obtain ⟨b, off, rfl, hblt, hc⟩ := hcells.out.resolve_left (by omega)
      obtain ⟨c0, c1, c2⟩ := hc k hlt
      rw [← hb.cell (p := ⟨b, off + k * 3, none⟩) hblt] at c0
      rw [← hb.cell (p := ⟨b, off + k * 3 + 1, none⟩) hblt] at c1
      rw [← hb.cell (p := ⟨b, off + k * 3 + 2, none⟩) hblt] at c2
      have hsz := hb.size
      clear hc
      replace hb := Lib.hid hb
      by_cases he : (cAt cs k).code = s
      · have hfin := Lib.hid (findIx_some s cs k (by rw [hl.out]; exact hlt) he hall.out)
        rw [he] at c0
        clear he
        go_wp2_with fail
        go_ret2
        exact ⟨by rw [hfin.out]; rfl, hb.out.alloc hsz _⟩
      · have hne := str_ne he
        replace he := Lib.hid he
        go_wp2_with fail
        go_roundw
        case rel =>
          refine ⟨k + 1, by omega, by go_num, hb.out.alloc hsz _, fun i hi => ?_⟩
          by_cases e : i = k
          · subst e; exact he.out
          · exact hall.out i (by omega)
        case measure => simp [intOf]; omega
    · have hfin := Lib.hid (findIx_none s cs (fun i hi => hall.out i (by rw [hl.out] at hi; omega)))
      replace hb := Lib.hid hb
      go_wp2_with fail
      go_ret2
      exact ⟨by rw [hfin.out]; rfl, hb.out⟩


/-- two Codes ahead of k, or of which one is, are the same -/
def Twice (cs : List Cur) (k : Nat) : Prop := ∃ j, j < k ∧ ∃ i, i < j ∧ (cAt cs i).code = (cAt cs j).code
open Classical in
noncomputable def twB (cs : List Cur) : Bool := decide (Twice cs cs.length)
theorem tw_yes {cs : List Cur} (h : Twice cs cs.length) : twB cs = true := by unfold twB; simp [h]
theorem tw_no {cs : List Cur} (h : ¬ Twice cs cs.length) : twB cs = false := by unfold twB; simp [h]

/-- the first place is the currency's own just if none ahead is the same -/
theorem find_own (cs : List Cur) (k : Nat) (hk : k < cs.length) (h : ∀ i, i < k → (cAt cs i).code ≠ (cAt cs k).code) : findV (findIx (cAt cs k).code cs) = k := by
  rw [findIx_some _ cs k hk rfl h]; rfl
theorem find_ahead (s : ByteArray) : ∀ (cs : List Cur) (i : Nat), i < cs.length → (cAt cs i).code = s → ∃ j, j ≤ i ∧ findIx s cs = some j
  | [], i, h, _ => by simp at h
  | c :: r, i, hi, h => by
    by_cases hc : c.code = s
    · exact ⟨0, by omega, by simp [findIx, hc]⟩
    · cases i with
      | zero => exact absurd h hc
      | succ i =>
        obtain ⟨j, hj, e⟩ := find_ahead s r i (by simpa using hi) h
        exact ⟨j + 1, by omega, by simp [findIx, hc, e]⟩
theorem find_other (cs : List Cur) (k : Nat) (hk : k < cs.length) (h : ∃ i, i < k ∧ (cAt cs i).code = (cAt cs k).code) : ∃ j : Nat, j < k ∧ findV (findIx (cAt cs k).code cs) = j := by
  obtain ⟨i, hi, e⟩ := h
  obtain ⟨j, hj, e2⟩ := find_ahead _ cs i (by omega) e
  exact ⟨j, by omega, by rw [e2]; rfl⟩

set_option maxHeartbeats 1000000 in
set_option maxRecDepth 100000 in
theorem twice_any (p : Option Addr) (len cap : Nat) (cs : List Cur) (w : World) (hs : Tab w p len cs) :
    Calls Try.prog 71 #[.slice p len cap] w fun e w' => e = .returned (.bool (twB cs)) ∧ Below w.heap.size w w' := by
  have hT := Lib.hid hs
  obtain ⟨hl, hz, hm, hcells⟩ := hs
  replace hl := Lib.hid hl
  replace hz := Lib.hid hz
  replace hcells := Lib.hid hcells
  go_enter Try.func71, Try.ntmps71
  go_wp2_with fail
  go_loopw [9] (fun i wr => ∃ k : Nat, k ≤ len ∧ i = .int .i64 k ∧ Below w.heap.size w wr ∧ ¬ Twice cs k) (fun i _ => len - (intOf i).toNat)
  case atStart => exact ⟨0, by omega, rfl, Below.refl _ _, fun ⟨j, hj, _⟩ => by omega⟩
  case round =>
    obtain ⟨k, hk, rfl, hb, hall⟩ := hrel
    replace hall := Lib.hid hall
    by_cases hlt : k < len
    · obtain ⟨b, off, rfl, hblt, hc⟩ := hcells.out.resolve_left (by omega)
      obtain ⟨c0, c1, c2⟩ := hc k hlt
      rw [← hb.cell (p := ⟨b, off + k * 3, none⟩) hblt] at c0
      rw [← hb.cell (p := ⟨b, off + k * 3 + 1, none⟩) hblt] at c1
      rw [← hb.cell (p := ⟨b, off + k * 3 + 2, none⟩) hblt] at c2
      have hsz := hb.size
      clear hc
      have hb1 := hb.alloc hsz (.cells #[.string (cAt cs k).code, .int .i64 (cAt cs k).rate, .int .i64 (cAt cs k).cut] 42)
      have hcon := find_any (some ⟨b, off, none⟩) len cap cs (cAt cs k).code _ (hT.out.kept hb1)
      rw [World.size_alloc] at hcon
      replace hb1 := Lib.hid hb1
      replace hb := Lib.hid hb
      by_cases he : ∃ i, i < k ∧ (cAt cs i).code = (cAt cs k).code
      · have hfin : twB cs = true := tw_yes ⟨k, by rw [hl.out]; exact hlt, he⟩
        replace hfin := Lib.hid hfin
        obtain ⟨j, hj, e⟩ := find_other cs k (by rw [hl.out]; exact hlt) he
        rw [e] at hcon
        have hne : ((j : Int) != (k : Int)) = true := by simp; omega
        clear e he
        replace hcon := Lib.hid hcon
        go_wp2_with (first | (go_at_call 90; (with_reducible refine hcon.out.mono ?_); rintro e w1 ⟨rfl, hb2⟩))
        go_ret
        exact ⟨by rw [hfin.out]; rfl, hb1.out.trans (hb2.mono (by omega))⟩
      · have e := find_own cs k (by rw [hl.out]; exact hlt) (fun i hi h => he ⟨i, hi, h⟩)
        rw [e] at hcon
        clear e
        replace he := Lib.hid he
        replace hcon := Lib.hid hcon
        go_wp2_with (first | (go_at_call 90; (with_reducible refine hcon.out.mono ?_); rintro e w1 ⟨rfl, hb2⟩))
        go_roundw
        case rel =>
          refine ⟨k + 1, by omega, by go_num, hb1.out.trans (hb2.mono (by omega)), ?_⟩
          rintro ⟨j, hj, h⟩
          by_cases e : j = k
          · subst e; exact he.out h
          · exact hall.out ⟨j, by omega, h⟩
        case measure => simp [intOf]; omega
    · have hfin : twB cs = false := tw_no (by
        rw [hl.out]; obtain rfl : k = len := by omega
        exact hall.out)
      replace hfin := Lib.hid hfin
      replace hb := Lib.hid hb
      go_wp2_with fail
      go_ret
      exact ⟨by rw [hfin.out]; rfl, hb.out⟩

noncomputable def missC (c : Cur) : Bool := missB c.code
theorem miss_any (c : Cur) (w : World) : Calls Try.prog 70 #[.agg #[.string c.code, .int .i64 c.rate, .int .i64 c.cut]] w fun e w' => e = .returned (.bool (missC c)) ∧ Below w.heap.size w w' := misspelt_any c w
/-- a place from 0 on just if one is as asked -/
def AnyIx (F : Cur → Bool) (cs : List Cur) (w : World) (e : Ending) (w' : World) : Prop := ∃ n : Int, e = .returned (.int .i64 n) ∧ decide (0 ≤ n) = cs.any F ∧ Below w.heap.size w w'

theorem any_yes {F : Cur → Bool} {cs : List Cur} {k : Nat} (hk : k < cs.length) (h : F (cAt cs k) = true) : cs.any F = true := List.any_eq_true.2 ⟨_, cAt_mem hk, h⟩
theorem any_no {F : Cur → Bool} {cs : List Cur} (h : ∀ i, i < cs.length → F (cAt cs i) = false) : cs.any F = false := by
  rw [List.any_eq_false]
  intro c hc
  obtain ⟨i, hi, rfl⟩ := List.getElem_of_mem hc
  have := h i hi
  unfold cAt at this
  rw [List.getD_eq_getElem?_getD, List.getElem?_eq_getElem hi] at this
  simpa using this

set_option maxHeartbeats 1000000 in
set_option maxRecDepth 100000 in
theorem index_miss (p : Option Addr) (len cap : Nat) (cs : List Cur) (w : World) (hs : Tab w p len cs) :
    Calls Try.prog 89 #[.slice p len cap, .func (.func 70) #[] #[]] w (AnyIx missC cs w) := by
  obtain ⟨hl, hz, hm, hcells⟩ := hs
  replace hl := Lib.hid hl
  replace hz := Lib.hid hz
  replace hcells := Lib.hid hcells
  go_enter Try.func89, Try.ntmps89
  go_wp2_with fail
  go_loopw [8] (fun i wr => ∃ k : Nat, k ≤ len ∧ i = .int .i64 k ∧ Below w.heap.size w wr ∧ ∀ i, i < k → missC (cAt cs i) = false) (fun i _ => len - (intOf i).toNat)
  case atStart => exact ⟨0, by omega, rfl, Below.refl _ _, fun i hi => by omega⟩
  case round =>
    obtain ⟨k, hk, rfl, hb, hall⟩ := hrel
    replace hall := Lib.hid hall
    by_cases hlt : k < len
    · obtain ⟨b, off, rfl, hblt, hc⟩ := hcells.out.resolve_left (by omega)
      obtain ⟨c0, c1, c2⟩ := hc k hlt
      rw [← hb.cell (p := ⟨b, off + k * 3, none⟩) hblt] at c0
      rw [← hb.cell (p := ⟨b, off + k * 3 + 1, none⟩) hblt] at c1
      rw [← hb.cell (p := ⟨b, off + k * 3 + 2, none⟩) hblt] at c2
      have hsz := hb.size
      clear hc
      have hcon := miss_any (cAt cs k) wr
      replace hb := Lib.hid hb
      by_cases hF : missC (cAt cs k) = true
      · have hfin := Lib.hid (any_yes (F := missC) (cs := cs) (by rw [hl.out]; exact hlt) hF)
        have hk0 : decide ((0 : Int) ≤ (k : Int)) = true := by simp
        replace hk0 := Lib.hid hk0
        simp only [hF] at hcon
        replace hcon := Lib.hid hcon
        clear hF
        go_wp2_with (first | (go_at_call 70; (with_reducible refine hcon.out.mono ?_); rintro e w1 ⟨rfl, hb2⟩))
        go_ret
        exact ⟨k, rfl, by rw [hfin.out]; exact hk0.out, chain_trans hb.out hb2⟩
      · have hF' : missC (cAt cs k) = false := by simpa using hF
        simp only [hF'] at hcon
        replace hcon := Lib.hid hcon
        replace hF' := Lib.hid hF'
        clear hF
        go_wp2_with (first | (go_at_call 70; (with_reducible refine hcon.out.mono ?_); rintro e w1 ⟨rfl, hb2⟩))
        go_roundw
        case rel =>
          refine ⟨k + 1, by omega, by go_num, chain_trans hb.out hb2, fun i hi => ?_⟩
          by_cases e : i = k
          · subst e; exact hF'.out
          · exact hall.out i (by omega)
        case measure => simp [intOf]; omega
    · have hfin := Lib.hid (any_no (F := missC) (cs := cs) fun i hi => hall.out i (by rw [hl.out] at hi; omega))
      replace hb := Lib.hid hb
      go_wp2_with fail
      go_ret
      exact ⟨-1, rfl, by rw [hfin.out]; rfl, hb.out⟩

set_option maxHeartbeats 1000000 in
theorem contains_miss (p : Option Addr) (len cap : Nat) (cs : List Cur) (w : World) (hs : Tab w p len cs) :
    Calls Try.prog 69 #[.slice p len cap, .func (.func 70) #[] #[]] w fun e w' => e = .returned (.bool (cs.any missC)) ∧ Below w.heap.size w w' := by
  have hcon := Lib.hid (index_miss p len cap cs w hs)
  clear hs
  go_enter Try.func69, Try.ntmps69
  go_wp2_with (first | (go_at_call 89; (with_reducible refine hcon.out.mono ?_); rintro e w1 ⟨n, rfl, hn, hb⟩; replace hn := Lib.hid hn))
  go_ret
  exact ⟨by rw [← hn.out]; rfl, hb⟩

set_option maxHeartbeats 1000000 in
set_option maxRecDepth 100000 in
theorem index_oob (p : Option Addr) (len cap : Nat) (cs : List Cur) (w : World) (hs : Tab w p len cs) :
    Calls Try.prog 89 #[.slice p len cap, .func (.func 72) #[] #[]] w (AnyIx oobB cs w) := by
  obtain ⟨hl, hz, hm, hcells⟩ := hs
  replace hl := Lib.hid hl
  replace hz := Lib.hid hz
  replace hcells := Lib.hid hcells
  go_enter Try.func89, Try.ntmps89
  go_wp2_with fail
  go_loopw [8] (fun i wr => ∃ k : Nat, k ≤ len ∧ i = .int .i64 k ∧ Below w.heap.size w wr ∧ ∀ i, i < k → oobB (cAt cs i) = false) (fun i _ => len - (intOf i).toNat)
  case atStart => exact ⟨0, by omega, rfl, Below.refl _ _, fun i hi => by omega⟩
  case round =>
    obtain ⟨k, hk, rfl, hb, hall⟩ := hrel
    replace hall := Lib.hid hall
    by_cases hlt : k < len
    · obtain ⟨b, off, rfl, hblt, hc⟩ := hcells.out.resolve_left (by omega)
      obtain ⟨c0, c1, c2⟩ := hc k hlt
      rw [← hb.cell (p := ⟨b, off + k * 3, none⟩) hblt] at c0
      rw [← hb.cell (p := ⟨b, off + k * 3 + 1, none⟩) hblt] at c1
      rw [← hb.cell (p := ⟨b, off + k * 3 + 2, none⟩) hblt] at c2
      have hsz := hb.size
      clear hc
      have hcon := oob_any (cAt cs k) wr
      replace hb := Lib.hid hb
      by_cases hF : oobB (cAt cs k) = true
      · have hfin := Lib.hid (any_yes (F := oobB) (cs := cs) (by rw [hl.out]; exact hlt) hF)
        have hk0 : decide ((0 : Int) ≤ (k : Int)) = true := by simp
        replace hk0 := Lib.hid hk0
        simp only [hF] at hcon
        replace hcon := Lib.hid hcon
        clear hF
        go_wp2_with (first | (go_at_call 72; (with_reducible refine hcon.out.mono ?_); rintro e w1 ⟨rfl, hb2⟩))
        go_ret
        exact ⟨k, rfl, by rw [hfin.out]; exact hk0.out, chain_trans hb.out hb2⟩
      · have hF' : oobB (cAt cs k) = false := by simpa using hF
        simp only [hF'] at hcon
        replace hcon := Lib.hid hcon
        replace hF' := Lib.hid hF'
        clear hF
        go_wp2_with (first | (go_at_call 72; (with_reducible refine hcon.out.mono ?_); rintro e w1 ⟨rfl, hb2⟩))
        go_roundw
        case rel =>
          refine ⟨k + 1, by omega, by go_num, chain_trans hb.out hb2, fun i hi => ?_⟩
          by_cases e : i = k
          · subst e; exact hF'.out
          · exact hall.out i (by omega)
        case measure => simp [intOf]; omega
    · have hfin := Lib.hid (any_no (F := oobB) (cs := cs) fun i hi => hall.out i (by rw [hl.out] at hi; omega))
      replace hb := Lib.hid hb
      go_wp2_with fail
      go_ret
      exact ⟨-1, rfl, by rw [hfin.out]; rfl, hb.out⟩

set_option maxHeartbeats 1000000 in
theorem contains_oob (p : Option Addr) (len cap : Nat) (cs : List Cur) (w : World) (hs : Tab w p len cs) :
    Calls Try.prog 69 #[.slice p len cap, .func (.func 72) #[] #[]] w fun e w' => e = .returned (.bool (cs.any oobB)) ∧ Below w.heap.size w w' := by
  have hcon := Lib.hid (index_oob p len cap cs w hs)
  clear hs
  go_enter Try.func69, Try.ntmps69
  go_wp2_with (first | (go_at_call 89; (with_reducible refine hcon.out.mono ?_); rintro e w1 ⟨n, rfl, hn, hb⟩; replace hn := Lib.hid hn))
  go_ret
  exact ⟨by rw [← hn.out]; rfl, hb⟩

end Go.Proofs.Ytljclgphgojphaa
