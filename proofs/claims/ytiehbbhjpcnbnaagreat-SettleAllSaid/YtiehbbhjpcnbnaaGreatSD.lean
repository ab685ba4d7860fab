/- The contract of pass, and of the function that it hands back, whoever calls it. -/
import Derived.RangeFuncBox
import Derived.RangeFuncCalls
import Derived.RangeFuncBound
import Derived.RangeFuncLeaves
import Derived.Shelf.Abstract
import Derived.OwnWalkIn
import Derived.TacticsInMore
import Derived.LoopNIn
import Derived.LoopIn
import Derived.Test.YtiehbbhjpcnbnaaGreatSC
namespace Go.Proofs.YtiehbbhjpcnbnaaGreat
open Go.RowKit Go.Shelf
attribute [local go_sem] Oper.semAt_some
set_option linter.unusedVariables false

section
variable {K : Nat → Prop} {c : GC} {s : ST} {w w' : World}
theorem PS.all (h : PS K c s w) (st : Int) : Calls Tryz.prog 12 #[.pointer (some ⟨c.kb, 0, none⟩), .int .i64 st] w fun e w' => ∃ u, e = .returned u ∧ Dd.ZR w w' u (s.b.all st) := by
  obtain ⟨⟨G, P, h1, h2, h3, h4⟩, h5⟩ := h
  exact Dd.all_any h2 st (by have := h5.b.len; omega) fun e => by subst e; exact h5.b.nodup2
end
theorem all_len (b : Dd.Bk) (st : Int) : (b.all st).length ≤ b.l.length := by
  unfold Dd.Bk.all
  dsimp only
  rw [List.length_map]
  split
  · rw [Dd.lowest_len]; exact List.length_filter_le _ _
  · exact List.length_filter_le _ _
theorem mem_all {b : Dd.Bk} {st id : Int} (h : id ∈ b.all st) : ∃ e ∈ b.l, e.d.id = id ∧ e.st = st := by
  unfold Dd.Bk.all at h
  dsimp only at h
  obtain ⟨e, he, rfl⟩ := List.mem_map.1 h
  have he2 : e ∈ b.l.filter fun e => decide (e.st = st) := by
    split at he
    · unfold Dd.lowest at he; exact (List.mem_mergeSort).1 he
    · exact he
  have := List.mem_filter.1 he2
  exact ⟨e, this.1, rfl, by simpa using this.2⟩
theorem ST.Ok.id64 {s : ST} (h : s.Ok) {st id : Int} (hid : id ∈ s.b.all st) : In64 id := by
  obtain ⟨e, he, rfl, _⟩ := mem_all hid
  exact (h.b.may e he).2.1.id
set_option maxHeartbeats 1000000 in
/-- pass: both pointers boxed; the function value that holds them -/
theorem pass_any (p q : Option Addr) (w : World) : Calls Tryz.prog 34 #[.pointer p, .pointer q] w fun e w' => e = .returned (.func (.func 59) #[] #[.pointer (some ⟨w.heap.size + 1, 0, none⟩), .pointer (some ⟨w.heap.size, 0, none⟩)]) ∧ w' = (w.alloc (.cells #[.pointer p] 29)).alloc (.cells #[.pointer q] 30) := by
  go_enter Tryz.func34, Tryz.ntmps34
  go_wp2_with fail
  go_ret
  exact ⟨by simp, rfl⟩
theorem passL_take {s : ST} : ∀ (ids : List Int) (k : Nat) (hk : k < ids.length), passL s (ids.take (k + 1)) = (if (tryS (passL s (ids.take k)).2 ids[k]).1 = 0 then ((passL s (ids.take k)).1 ++ [ids[k]], (tryS (passL s (ids.take k)).2 ids[k]).2) else ((passL s (ids.take k)).1, (tryS (passL s (ids.take k)).2 ids[k]).2)) := by
  intro ids
  induction ids generalizing s with
  | nil => intro k hk; simp at hk
  | cons x r ih =>
    intro k hk
    cases k with
    | zero =>
      simp only [Nat.zero_add, List.take_succ_cons, List.take_zero, List.getElem_cons_zero, passL]
      split <;> simp
    | succ k =>
      have hk' : k < r.length := by simpa using hk
      simp only [List.take_succ_cons, List.getElem_cons_succ, passL]
      by_cases h : (tryS s x).1 = 0
      · rw [if_pos h, if_pos h, ih k hk']
        dsimp only
        split <;> simp
      · rw [if_neg h, if_neg h, ih k hk']
theorem pass_err {s : ST} (h : s.Ok) : ∀ ids, (passL s ids).2.Ok
  | [] => h
  | x :: r => by
    unfold passL
    split
    · exact pass_err (s := (tryS s x).2) (try_ok h x) r
    · exact pass_err (s := (tryS s x).2) (try_ok h x) r

structure Keeps (U : Nat → Prop) (w w' : World) : Prop where
  os : w'.os = w.os
  tape : w'.tape = w.tape
  output : w'.output = w.output
  size : w.heap.size ≤ w'.heap.size
  at_ : ∀ j, U j → w'.heap[j]? = w.heap[j]?
theorem Keeps.refl (U : Nat → Prop) (w : World) : Keeps U w w := ⟨rfl, rfl, rfl, Nat.le_refl _, fun _ _ => rfl⟩
theorem Keeps.cell {U : Nat → Prop} {w w' : World} (h : Keeps U w w') {p : Addr} {v : Value} (hc : w.cell? p = some v) (hp : U p.block) : w'.cell? p = some v := (World.cell?_of_block (w := w) (h.at_ _ hp)).trans hc
theorem Keeps.trans {U : Nat → Prop} {a b c : World} (h : Keeps U a b) (k : Keeps U b c) : Keeps U a c := ⟨k.os.trans h.os, k.tape.trans h.tape, k.output.trans h.output, Nat.le_trans h.size k.size, fun j hj => (k.at_ j hj).trans (h.at_ j hj)⟩
theorem Keeps.less {U V : Nat → Prop} {a b : World} (h : Keeps U a b) (hV : ∀ j, V j → U j) : Keeps V a b := ⟨h.os, h.tape, h.output, h.size, fun j hj => h.at_ j (hV j hj)⟩
theorem Keeps.below {U : Nat → Prop} {a b : World} (h : Below a.heap.size a b) (hU : ∀ j, U j → j < a.heap.size) : Keeps U a b := ⟨h.os, h.tape, h.output, h.size, fun j hj => h.block j (hU j hj)⟩
theorem Keeps.of_kp {U F : Nat → Prop} {a b : World} (h : Kp F a b) (hU : ∀ j, U j → j < a.heap.size ∧ ¬ F j) : Keeps U a b := ⟨h.os, h.tape, h.output, h.size, fun j hj => h.block j (hU j hj).1 (hU j hj).2⟩
theorem Keeps.kp {U : Nat → Prop} {a b : World} (h : Keeps U a b) : Kp (fun j => ¬ U j) a b := ⟨h.os, h.tape, h.output, h.size, fun j _ hn => h.at_ j (Classical.not_not.1 hn)⟩
/-- what the function that pass hands back asks of whoever calls it -/
structure JI (c : GC) (n l : Nat) (J : (Nat → Prop) → ST → List Int → World → Prop) : Prop where
  ps : ∀ {U s out W}, J U s out W → PS U c s W
  more : ∀ {U U' : Nat → Prop} {s out} {W W' : World}, J U s out W → Below W.heap.size W W' → (∀ j, U' j → U j ∨ (W.heap.size ≤ j ∧ j < W'.heap.size)) → J U' s out W'
  tryc : ∀ {U s out W} {id : Int}, J U s out W → In64 id → Calls Tryz.prog 18 #[.pointer (some ⟨c.gb, 0, none⟩), .pointer (some ⟨c.kb, 0, none⟩), .int .i64 id] W fun e W' => e = .returned (.int .i64 (tryS s id).1) ∧ J U (tryS s id).2 out W' ∧ Keeps U W W'
  yld : ∀ {U s out W} {x : Int}, J U s out W → In64 x → out.length ≤ 1000000 → YieldAt Fence.wide (n - 1) Tryz.prog l #[.int .i64 x] W fun e W' => e = .returned (.bool true) ∧ J U s (out ++ [x]) W' ∧ Keeps U W W'

set_option maxHeartbeats 4000000 in
set_option maxRecDepth 100000 in
theorem pass1_in {c : GC} {n l : Nat} {J : (Nat → Prop) → ST → List Int → World → Prop} (hJ : JI c n l J) {U : Nat → Prop} {s : ST} {out : List Int} {W : World} (h : J U s out W) {bg bb : Nat} (hg : U bg) (hb : U bb) (cg : W.cell? ⟨bg, 0, none⟩ = some (.pointer (some ⟨c.gb, 0, none⟩))) (cb : W.cell? ⟨bb, 0, none⟩ = some (.pointer (some ⟨c.kb, 0, none⟩))) (hout : out.length ≤ 1000) :
    CallsIn Fence.wide n Tryz.prog 59 #[.func (.yield l) #[] #[], .pointer (some ⟨bb, 0, none⟩), .pointer (some ⟨bg, 0, none⟩)] W fun e W' => (∃ v, e = .returned v) ∧ J U (passS s).2 (out ++ (passS s).1) W' ∧ Keeps U W W' := by
  have hP := hJ.ps h
  have c12 := hP.all 2
  have hids : ∀ id ∈ s.b.all 2, In64 id := fun id hi => hP.ok.id64 hi
  have hlen : (s.b.all 2).length ≤ 200 := Nat.le_trans (all_len _ _) hP.ok.b.len
  have hfin : passS s = passL s ((s.b.all 2).take (s.b.all 2).length) := by unfold passS; rw [List.take_length]
  rw [hfin]
  clear hfin
  generalize s.b.all 2 = ids at *
  have hUl := hP.lt
  replace h := Lib.hid h
  replace hJ := Lib.hid hJ
  replace hids := Lib.hid hids
  replace hUl := Lib.hid hUl
  clear hP
  refine callsIn_of_wp Tryz.func59 rfl trivial ?_ rfl
  simp only [Tryz.ntmps59, List.size_toArray, List.length_cons, List.length_nil, Nat.reduceAdd, Nat.reduceSub, Array.replicate_succ, Array.replicate_zero, List.push_toArray, List.append_toArray, List.nil_append, List.cons_append]
  gi_wp2_with (refine ⟨trivial, (fun h => by simp [Fence.wide] at h), ?_⟩; gi_at_call 12; refine (callsIn_wide.2 c12).mono ?_; rintro e W1 ⟨u, rfl, hz⟩; obtain ⟨p, cap, hu, -, -, hps⟩ := Dd.orow_shape hz.row; subst hu)
  have hbl := hz.bl
  obtain ⟨U2, hU2⟩ : ∃ U2 : Nat → Prop, U2 = fun j => U j ∨ (W.heap.size ≤ j ∧ j < W1.heap.size) := ⟨_, rfl⟩
  have hUU : ∀ j, U j → U2 j := fun j hj => by rw [hU2]; exact .inl hj
  have h1 := hJ.out.more (U' := U2) h.out hbl (fun j hj => by rw [hU2] at hj; exact hj)
  have hrow : ∀ k (hk : k < ids.length), ∃ g, p = some ⟨g, 0, none⟩ ∧ U2 g ∧ W1.cell? ⟨g, k, none⟩ = some (.int .i64 ids[k]) := fun k hk => by
    obtain ⟨a, rfl⟩ := hps (by omega)
    rcases hz.row.2 with ⟨e, _⟩ | ⟨g, cap', cur, e, _⟩
    · cases e
    · injection e with e
      injection e with e
      subst e
      refine ⟨g, rfl, ?_, ?_⟩
      · rw [hU2]
        exact .inr ⟨hz.own g rfl, (World.ownsRow.lt hz.row g rfl).2⟩
      · have := Dd.IRow.at_ hz.row (g := g) (k := k) rfl hk
        rw [this, List.getD_eq_getElem?_getD, List.getElem?_eq_getElem hk]; rfl
  have hkW : Keeps U W W1 := .below hbl hUl.out
  have cg1 := hkW.cell cg hg
  have cb1 := hkW.cell cb hb
  have hL0 : passL s (ids.take 0) = ([], s) := by rw [List.take_zero]; rfl
  have hst := fun k (hk : k < ids.length) => passL_take (s := s) ids k hk
  have hle : ∀ k, (passL s (ids.take k)).1.length ≤ 200 := fun k => by
    have : ∀ (l : List Int) (s : ST), (passL s l).1.length ≤ l.length := fun l => by
      induction l with
      | nil => intro s; simp [passL]
      | cons y r ih =>
        intro s
        unfold passL
        split
        · have := ih (tryS s y).2; simp; omega
        · have := ih (tryS s y).2; simp; omega
    have h1 := this (ids.take k) s
    have h2 : (ids.take k).length ≤ ids.length := by rw [List.length_take]; omega
    omega
  generalize hPL : (fun k => passL s (ids.take k)) = PL at *
  have hPL' : ∀ k, passL s (ids.take k) = PL k := fun k => by rw [← hPL]
  simp only [hPL'] at hst hle hL0
  have hE := hPL' ids.length
  rw [List.take_length] at hE
  replace hE := Lib.hid hE
  clear hPL hPL' hU2 c12 hps cg cb
  rw [← List.append_nil out] at h1
  have h1' : J U2 (PL 0).2 (out ++ (PL 0).1) W1 := by rw [hL0]; exact h1
  replace hkW := Lib.hid hkW
  replace hrow := Lib.hid hrow
  replace h1 := Lib.hid h1'
  replace hst := Lib.hid hst
  replace hle := Lib.hid hle
  replace hUU := Lib.hid hUU
  replace hz := Lib.hid hz
  replace hbl := Lib.hid hbl
  clear hL0 h1'
  gi_loopw [5, 9] (fun x y wr => ∃ k : Nat, y = .int .i64 (k : Nat) ∧ k ≤ ids.length ∧ J U2 (PL k).2 (out ++ (PL k).1) wr ∧ Keeps U2 W1 wr) (fun x y wr => ids.length - (intOf y).toNat)
  case atStart => exact ⟨0, rfl, by omega, h1.out, Keeps.refl _ _⟩
  case round =>
    obtain ⟨k, rfl, hk, hJk, hkk⟩ := hrel
    have cg2 := hkk.cell cg1 (hUU.out _ hg)
    have cb2 := hkk.cell cb1 (hUU.out _ hb)
    by_cases hlt : k < ids.length
    · have hlt' : (k : Int) < (ids.length : Int) := by omega
      obtain ⟨g, rfl, hg2, hc2⟩ := hrow.out k hlt
      have hc3 := hkk.cell hc2 hg2
      have hid := hids.out _ (List.getElem_mem hlt)
      have hsk := hst.out k hlt
      generalize ids[k] = id at *
      have cT := hJ.out.tryc hJk hid
      replace hkk := Lib.hid hkk
      by_cases hz0 : (tryS (PL k).2 id).1 = 0
      · rw [if_pos hz0] at hsk
        rw [hz0] at cT
        generalize (tryS (PL k).2 id).2 = s' at *
        have hY : ∀ W3, J U2 s' (out ++ (PL k).1) W3 → _ := fun W3 h3 => hJ.out.yld h3 hid (by have := hle.out k; rw [List.length_append]; omega)
        replace hsk := Lib.hid hsk
        replace hY := Lib.hid hY
        replace hJk := Lib.hid hJk
        gi_wp2_with (refine ⟨trivial, (fun h => by simp [Fence.wide] at h), ?_⟩; gi_at_call 18; refine (callsIn_wide.2 cT).mono ?_; rintro e W3 ⟨rfl, hJ3, hk3⟩; obtain ⟨fn, tmps, assign, body, hy, hR⟩ := hY.out W3 hJ3; replace hJ3 := Lib.hid hJ3; replace hk3 := Lib.hid hk3)
        refine ⟨(fun h => by simp [Fence.wide] at h), hR.mono ?_⟩
        rintro e W4 ⟨rfl, hJ4, hk4⟩
        gi_wp2
        go_roundw
        case rel => exact ⟨k + 1, by (first | go_num | simp), by omega, by rw [hsk.out]; rw [← List.append_assoc]; exact hJ4, hkk.out.trans (hk3.out.trans hk4)⟩
        case measure => simp only [intOf, Int.toNat_natCast]; exact Nat.sub_lt_sub_left hlt (by simp)
      · rw [if_neg hz0] at hsk
        generalize (tryS (PL k).2 id).2 = s' at *
        generalize (tryS (PL k).2 id).1 = r at *
        have hzb : (r == 0) = false := by simpa using hz0
        replace hsk := Lib.hid hsk
        replace hJk := Lib.hid hJk
        replace hz0 := Lib.hid hz0
        gi_wp2_with (refine ⟨trivial, (fun h => by simp [Fence.wide] at h), ?_⟩; gi_at_call 18; refine (callsIn_wide.2 cT).mono ?_; rintro e W3 ⟨rfl, hJ3, hk3⟩; replace hJ3 := Lib.hid hJ3; replace hk3 := Lib.hid hk3)
        refine ⟨(fun _ h => by cases h), ?_⟩
        gi_wp2
        go_roundw
        case rel => exact ⟨k + 1, by (first | go_num | simp), by omega, by rw [hsk.out]; exact hJ3.out, hkk.out.trans hk3.out⟩
        case measure => simp only [intOf, Int.toNat_natCast]; exact Nat.sub_lt_sub_left hlt (by simp)
    · obtain rfl : k = ids.length := by omega
      have hirr : ¬ ((ids.length : Nat) : Int) < ((ids.length : Nat) : Int) := by omega
      replace hJk := Lib.hid hJk
      gi_wp2
      go_end0
      exact ⟨⟨_, rfl⟩, by rw [hE.out]; exact hJ.out.more hJk.out (Below.refl _ _) (fun j hj => .inl (hUU.out j hj)), hkW.out.trans (hkk.less hUU.out)⟩
end Go.Proofs.YtiehbbhjpcnbnaaGreat
