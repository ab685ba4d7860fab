/- The contracts of wire's fieldAt and its closures. -/
import Derived.Test.YtgcliallkfnhaaaUA
import Derived.Laws.CopyOwn
namespace Go.Proofs.Ytgcliallkfnhaaa
open Go.RowKit
set_option linter.unusedVariables false

def layF (i : Nat) : Nat := if i < 5 then 38 else 40
def takF (i : Nat) : Nat := if i < 5 then 39 else 41
def ptrT (i : Nat) : Nat := if i < 5 then 83 else 85
/-- a field in memory: the boxes of its closures -/
structure Fld (w : World) (c i a b : Nat) : Prop where
  pa : w.heap[a]? = some (.cells #[.pointer (some ⟨c, i + 1, none⟩)] (ptrT i) (0, 0))
  pb : w.heap[b]? = some (.cells #[.int .i64 (wid i : Nat)] 3 (0, 0))
def fArr (i a b : Nat) : Array Value := #[.int .i64 (wid i : Nat), .func (.func (layF i)) #[] #[.pointer (some ⟨a, 0, none⟩), .pointer (some ⟨b, 0, none⟩)], .func (.func (takF i)) #[] #[.pointer (some ⟨b, 0, none⟩), .pointer (some ⟨a, 0, none⟩)]]
theorem Fld.kept {F : Nat → Prop} {w w' : World} {c i a b : Nat} (h : Fld w c i a b) (hk : Kp F w w') (ha : ¬ F a) (hb : ¬ F b) : Fld w' c i a b :=
  ⟨(hk.block a (obj_lt h.pa) ha).trans h.pa, (hk.block b (obj_lt h.pb) hb).trans h.pb⟩
theorem Fld.below {w w' : World} {c i a b : Nat} (h : Fld w c i a b) (hk : Below w.heap.size w w') : Fld w' c i a b :=
  ⟨(hk.block a (obj_lt h.pa)).trans h.pa, (hk.block b (obj_lt h.pb)).trans h.pb⟩
theorem results_field (fd : Func) (hf : fd.results = #[.cell 4 67]) (tmps : Array Value) (w : World) (g : Nat) (cs : Array Value) (fr : Nat × Nat) (hp : tmps.getD 4 undef = .pointer (some ⟨g, 0, none⟩)) (hg : w.heap[g]? = some (.cells cs 67 fr)) (hs : (Try.prog.info? 67).map (·.size) = some cs.size) :
    (results fd tmps).run Try.prog w = .ok (.agg cs) w := by
  have hp' : tmps[4]?.getD undef = .pointer (some ⟨g, 0, none⟩) := by simpa using hp
  unfold results
  rw [hf]
  simp [hp', asAddr, run_loadVar_row w g 67 67 cs fr _ hg Try.underlying67 rfl hs]
theorem heap_alloc3_new (w : World) (A B C : Obj) : (((w.alloc A).alloc B).alloc C).heap[w.heap.size + 1 + 1]? = some C := by
  have h := heap_alloc_new ((w.alloc A).alloc B) C
  have e : ((w.alloc A).alloc B).heap.size = w.heap.size + 1 + 1 := by simp
  rwa [e] at h
set_option maxHeartbeats 2000000 in
set_option maxRecDepth 100000 in
theorem field36_any (p : Addr) (k : Nat) (w : World) :
    Calls Try.prog 36 #[.pointer (some p), .int .i64 (k : Int)] w fun e w' => ∃ a b, e = .returned (.agg #[.int .i64 (k : Int), .func (.func 38) #[] #[.pointer (some ⟨a, 0, none⟩), .pointer (some ⟨b, 0, none⟩)], .func (.func 39) #[] #[.pointer (some ⟨b, 0, none⟩), .pointer (some ⟨a, 0, none⟩)]]) ∧
      w'.heap[a]? = some (.cells #[.pointer (some p)] 83 (0, 0)) ∧ w'.heap[b]? = some (.cells #[.int .i64 (k : Int)] 3 (0, 0)) ∧ w.heap.size ≤ a ∧ w.heap.size ≤ b ∧ Below w.heap.size w w' := by
  have hx := heap_alloc3_new w (.cells #[.pointer (some p)] 83) (.cells #[.int .i64 (k : Int)] 3) (.cells #[.int .i64 0, .nilFunc, .nilFunc] 67)
  have hA : (((w.alloc (.cells #[.pointer (some p)] 83)).alloc (.cells #[.int .i64 (k : Int)] 3)).alloc (.cells #[.int .i64 0, .nilFunc, .nilFunc] 67)).heap[w.heap.size]? = some (.cells #[.pointer (some p)] 83 (0, 0)) := (Below.heap_alloc _ _ _ (by simp; omega)).trans (heap_alloc2_old w _ _)
  have hB : (((w.alloc (.cells #[.pointer (some p)] 83)).alloc (.cells #[.int .i64 (k : Int)] 3)).alloc (.cells #[.int .i64 0, .nilFunc, .nilFunc] 67)).heap[w.heap.size + 1]? = some (.cells #[.int .i64 (k : Int)] 3 (0, 0)) := (Below.heap_alloc _ _ _ (by simp)).trans (heap_alloc2_new w _ _)
  have hW : Below w.heap.size w (((w.alloc (.cells #[.pointer (some p)] 83)).alloc (.cells #[.int .i64 (k : Int)] 3)).alloc (.cells #[.int .i64 0, .nilFunc, .nilFunc] 67)) := (((Below.refl _ _).alloc (Nat.le_refl _) _).alloc (by simp) _).alloc (by simp; omega) _
  replace hx := Lib.hid hx
  replace hA := Lib.hid hA
  replace hB := Lib.hid hB
  replace hW := Lib.hid hW
  go_enter Try.func36, Try.ntmps36
  go_wp2_with (first | (refine wpList_store_row rfl 67 _ _ rfl (w.heap.size + 1 + 1) _ rfl rfl 67 _ hx.out (by kernel_rfl) rfl (by simp [Value.oneCell']) ?_))
  (try simp only [Exit.inBlock, Exit.then])
  refine bodyPost_ret (results_field _ rfl _ _ _ _ _ rfl (setRow_heap _ _ _ _ _ _ hx.out) (by kernel_rfl)) rfl ?_
  exact ⟨_, _, rfl, (setRow_other _ _ _ _ (by omega)).trans hA.out, (setRow_other _ _ _ _ (by omega)).trans hB.out, by omega, by omega, below_setRow hW.out (by omega) _⟩

set_option maxHeartbeats 2000000 in
set_option maxRecDepth 100000 in
theorem clay38_any (a b : Nat) (p : Addr) (x : Int) (k : Nat) (v : Value) (l : List UInt8) (w : World) (hr : Row w v l) (hk : k ≤ 8) (hl : l.length ≤ 16000000)
    (ha : w.cell? ⟨a, 0, none⟩ = some (.pointer (some p))) (hb : w.cell? ⟨b, 0, none⟩ = some (.int .i64 (k : Int))) (hp : w.cell? p = some (.int .i64 x)) :
    Calls Try.prog 38 #[v, .pointer (some ⟨a, 0, none⟩), .pointer (some ⟨b, 0, none⟩)] w fun e w' => ∃ u, e = .returned u ∧ Laid w w' v u (l ++ bes k (toU x)) := by
  have hL : Calls Try.prog 32 #[v, .int .i64 x, .int .i64 (k : Int)] w.drew fun e w' => ∃ u, e = .returned u ∧ Laid w.drew w' v u (l ++ bes k (toU x)) := lay32_any v l x k w.drew hr hk hl
  replace hL := Lib.hid hL
  replace hr := Lib.hid hr
  go_enter Try.func38, Try.ntmps38
  go_wp2_with fail
  go_still_tail 5, (by kernel_rfl)
  change wpList _ _ _ _ _ (World.drew _)
  go_wp2_with (first | (go_at_call 32; (with_reducible refine hL.out.mono ?_); rintro e w1 ⟨u, rfl, hU⟩; replace hU := Lib.hid hU))
  go_ret
  exact ⟨_, rfl, hU.out.row, ⟨hU.out.kp.os, hU.out.kp.tape, hU.out.kp.output, hU.out.kp.size, hU.out.kp.block⟩, hU.out.own⟩

set_option maxHeartbeats 2000000 in
set_option maxRecDepth 100000 in
theorem ctake39_any (a b : Nat) (p : Addr) (s : ByteArray) (k : Nat) (u : Value) (w : World) (hk : k ≤ 8) (hs : k ≤ s.size) (hsz : s.size ≤ 1000000)
    (ha : w.cell? ⟨a, 0, none⟩ = some (.pointer (some p))) (hb : w.cell? ⟨b, 0, none⟩ = some (.int .i64 (k : Int))) (hp : w.cell? p = some u) (hz : w.frozen? p = false) (hpa : p.block ≠ a) (hpb : p.block ≠ b) :
    Calls Try.prog 39 #[.string s, .pointer (some ⟨b, 0, none⟩), .pointer (some ⟨a, 0, none⟩)] w fun e w' => e = .returned (.string (s.extract k s.size)) ∧ ∃ nq, w' = (w.drewN nq).setCell p (.int .i64 (toI (vls ((bl s).take k)))) := by
  have hA2 : Hid (∀ n u, ((w.drewN n).setCell p u).cell? ⟨a, 0, none⟩ = some (.pointer (some p))) := Lib.hid fun n u => (World.cell?_of_block (a := ⟨a, 0, none⟩) (obj_other (w := w.drewN n) u (Ne.symm hpa))).trans ha
  have hB2 : Hid (∀ n u, ((w.drewN n).setCell p u).cell? ⟨b, 0, none⟩ = some (.int .i64 (k : Int))) := Lib.hid fun n u => (World.cell?_of_block (a := ⟨b, 0, none⟩) (obj_other (w := w.drewN n) u (Ne.symm hpb))).trans hb
  have hT := fun w => take24_any s k w hk hs hsz
  generalize toI (vls ((bl s).take k)) = x at *
  replace hT := Lib.hid hT
  go_enter Try.func39, Try.ntmps39
  go_wp2_with fail
  go_region_held3 (fun w' => w'.cell? ⟨a, 0, none⟩ = some (.pointer (some p)) ∧ w'.cell? ⟨b, 0, none⟩ = some (.int .i64 (k : Int))) (first | exact ⟨ha, hb⟩ | exact ⟨hA2.out _ _, hB2.out _ _⟩) (first | (go_at_call 24; (with_reducible refine (hT.out _).mono ?_); rintro e w1 ⟨rfl, nq, rfl⟩))
  go_wp2_with fail
  go_ret
  exact ⟨rfl, _, rfl⟩

set_option maxHeartbeats 2000000 in
set_option maxRecDepth 100000 in
theorem field37_any (p : Addr) (k : Nat) (w : World) :
    Calls Try.prog 37 #[.pointer (some p), .int .i64 (k : Int)] w fun e w' => ∃ a b, e = .returned (.agg #[.int .i64 (k : Int), .func (.func 40) #[] #[.pointer (some ⟨a, 0, none⟩), .pointer (some ⟨b, 0, none⟩)], .func (.func 41) #[] #[.pointer (some ⟨b, 0, none⟩), .pointer (some ⟨a, 0, none⟩)]]) ∧
      w'.heap[a]? = some (.cells #[.pointer (some p)] 85 (0, 0)) ∧ w'.heap[b]? = some (.cells #[.int .i64 (k : Int)] 3 (0, 0)) ∧ w.heap.size ≤ a ∧ w.heap.size ≤ b ∧ Below w.heap.size w w' := by
  have hx := heap_alloc3_new w (.cells #[.pointer (some p)] 85) (.cells #[.int .i64 (k : Int)] 3) (.cells #[.int .i64 0, .nilFunc, .nilFunc] 67)
  have hA : (((w.alloc (.cells #[.pointer (some p)] 85)).alloc (.cells #[.int .i64 (k : Int)] 3)).alloc (.cells #[.int .i64 0, .nilFunc, .nilFunc] 67)).heap[w.heap.size]? = some (.cells #[.pointer (some p)] 85 (0, 0)) := (Below.heap_alloc _ _ _ (by simp; omega)).trans (heap_alloc2_old w _ _)
  have hB : (((w.alloc (.cells #[.pointer (some p)] 85)).alloc (.cells #[.int .i64 (k : Int)] 3)).alloc (.cells #[.int .i64 0, .nilFunc, .nilFunc] 67)).heap[w.heap.size + 1]? = some (.cells #[.int .i64 (k : Int)] 3 (0, 0)) := (Below.heap_alloc _ _ _ (by simp)).trans (heap_alloc2_new w _ _)
  have hW : Below w.heap.size w (((w.alloc (.cells #[.pointer (some p)] 85)).alloc (.cells #[.int .i64 (k : Int)] 3)).alloc (.cells #[.int .i64 0, .nilFunc, .nilFunc] 67)) := (((Below.refl _ _).alloc (Nat.le_refl _) _).alloc (by simp) _).alloc (by simp; omega) _
  replace hx := Lib.hid hx
  replace hA := Lib.hid hA
  replace hB := Lib.hid hB
  replace hW := Lib.hid hW
  go_enter Try.func37, Try.ntmps37
  go_wp2_with (first | (refine wpList_store_row rfl 67 _ _ rfl (w.heap.size + 1 + 1) _ rfl rfl 67 _ hx.out (by kernel_rfl) rfl (by simp [Value.oneCell']) ?_))
  (try simp only [Exit.inBlock, Exit.then])
  refine bodyPost_ret (results_field _ rfl _ _ _ _ _ rfl (setRow_heap _ _ _ _ _ _ hx.out) (by kernel_rfl)) rfl ?_
  exact ⟨_, _, rfl, (setRow_other _ _ _ _ (by omega)).trans hA.out, (setRow_other _ _ _ _ (by omega)).trans hB.out, by omega, by omega, below_setRow hW.out (by omega) _⟩

set_option maxHeartbeats 2000000 in
set_option maxRecDepth 100000 in
theorem clay40_any (a b : Nat) (p : Addr) (x : Int) (k : Nat) (v : Value) (l : List UInt8) (w : World) (hr : Row w v l) (hk : k ≤ 8) (hl : l.length ≤ 16000000)
    (ha : w.cell? ⟨a, 0, none⟩ = some (.pointer (some p))) (hb : w.cell? ⟨b, 0, none⟩ = some (.int .i64 (k : Int))) (hp : w.cell? p = some (.int .i64 x)) :
    Calls Try.prog 40 #[v, .pointer (some ⟨a, 0, none⟩), .pointer (some ⟨b, 0, none⟩)] w fun e w' => ∃ u, e = .returned u ∧ Laid w w' v u (l ++ bes k (toU x)) := by
  have hL : Calls Try.prog 31 #[v, .int .i64 x, .int .i64 (k : Int)] w.drew fun e w' => ∃ u, e = .returned u ∧ Laid w.drew w' v u (l ++ bes k (toU x)) := lay31_any v l x k w.drew hr hk hl
  replace hL := Lib.hid hL
  replace hr := Lib.hid hr
  go_enter Try.func40, Try.ntmps40
  go_wp2_with fail
  go_still_tail 5, (by kernel_rfl)
  change wpList _ _ _ _ _ (World.drew _)
  go_wp2_with (first | (go_at_call 31; (with_reducible refine hL.out.mono ?_); rintro e w1 ⟨u, rfl, hU⟩; replace hU := Lib.hid hU))
  go_ret
  exact ⟨_, rfl, hU.out.row, ⟨hU.out.kp.os, hU.out.kp.tape, hU.out.kp.output, hU.out.kp.size, hU.out.kp.block⟩, hU.out.own⟩

set_option maxHeartbeats 2000000 in
set_option maxRecDepth 100000 in
theorem ctake41_any (a b : Nat) (p : Addr) (s : ByteArray) (k : Nat) (u : Value) (w : World) (hk : k ≤ 8) (hs : k ≤ s.size) (hsz : s.size ≤ 1000000)
    (ha : w.cell? ⟨a, 0, none⟩ = some (.pointer (some p))) (hb : w.cell? ⟨b, 0, none⟩ = some (.int .i64 (k : Int))) (hp : w.cell? p = some u) (hz : w.frozen? p = false) (hpa : p.block ≠ a) (hpb : p.block ≠ b) :
    Calls Try.prog 41 #[.string s, .pointer (some ⟨b, 0, none⟩), .pointer (some ⟨a, 0, none⟩)] w fun e w' => e = .returned (.string (s.extract k s.size)) ∧ ∃ nq, w' = (w.drewN nq).setCell p (.int .i64 (toI (vls ((bl s).take k)))) := by
  have hA2 : Hid (∀ n u, ((w.drewN n).setCell p u).cell? ⟨a, 0, none⟩ = some (.pointer (some p))) := Lib.hid fun n u => (World.cell?_of_block (a := ⟨a, 0, none⟩) (obj_other (w := w.drewN n) u (Ne.symm hpa))).trans ha
  have hB2 : Hid (∀ n u, ((w.drewN n).setCell p u).cell? ⟨b, 0, none⟩ = some (.int .i64 (k : Int))) := Lib.hid fun n u => (World.cell?_of_block (a := ⟨b, 0, none⟩) (obj_other (w := w.drewN n) u (Ne.symm hpb))).trans hb
  have hT := fun w => take34_any s k w hk hs hsz
  generalize toI (vls ((bl s).take k)) = x at *
  replace hT := Lib.hid hT
  go_enter Try.func41, Try.ntmps41
  go_wp2_with fail
  go_region_held3 (fun w' => w'.cell? ⟨a, 0, none⟩ = some (.pointer (some p)) ∧ w'.cell? ⟨b, 0, none⟩ = some (.int .i64 (k : Int))) (first | exact ⟨ha, hb⟩ | exact ⟨hA2.out _ _, hB2.out _ _⟩) (first | (go_at_call 34; (with_reducible refine (hT.out _).mono ?_); rintro e w1 ⟨rfl, nq, rfl⟩))
  go_wp2_with fail
  go_ret
  exact ⟨rfl, _, rfl⟩

/-- the field of number i -/
theorem clay_any (c i a b : Nat) (x : Int) (v : Value) (l : List UInt8) (w : World) (hf : Fld w c i a b) (hr : Row w v l) (hl : l.length ≤ 16000000) (hx : w.cell? ⟨c, i + 1, none⟩ = some (.int .i64 x)) :
    Calls Try.prog (layF i) #[v, .pointer (some ⟨a, 0, none⟩), .pointer (some ⟨b, 0, none⟩)] w fun e w' => ∃ u, e = .returned u ∧ Laid w w' v u (l ++ bes (wid i) (toU x)) := by
  unfold layF
  split
  · exact clay38_any a b _ x (wid i) v l w hr (wid_le i) hl (obj_cell hf.pa rfl) (obj_cell hf.pb rfl) hx
  · exact clay40_any a b _ x (wid i) v l w hr (wid_le i) hl (obj_cell hf.pa rfl) (obj_cell hf.pb rfl) hx
theorem ctake_any (c i a b : Nat) (s : ByteArray) (u : Value) (w : World) (hf : Fld w c i a b) (hs : wid i ≤ s.size) (hsz : s.size ≤ 1000000) (hx : w.cell? ⟨c, i + 1, none⟩ = some u) (hz : w.frozen? ⟨c, i + 1, none⟩ = false) (hca : c ≠ a) (hcb : c ≠ b) :
    Calls Try.prog (takF i) #[.string s, .pointer (some ⟨b, 0, none⟩), .pointer (some ⟨a, 0, none⟩)] w fun e w' => e = .returned (.string (s.extract (wid i) s.size)) ∧ ∃ nq, w' = (w.drewN nq).setCell ⟨c, i + 1, none⟩ (.int .i64 (toI (vls ((bl s).take (wid i))))) := by
  unfold takF
  split
  · exact ctake39_any a b _ s (wid i) u w (wid_le i) hs hsz (obj_cell hf.pa rfl) (obj_cell hf.pb rfl) hx hz hca hcb
  · exact ctake41_any a b _ s (wid i) u w (wid_le i) hs hsz (obj_cell hf.pa rfl) (obj_cell hf.pb rfl) hx hz hca hcb
theorem enter38 (cb : Array Value) (w : World) : (callFunc 38 cb).run Try.prog w = .ok (.enter 38 cb) w := by kernel_rfl
theorem enter39 (cb : Array Value) (w : World) : (callFunc 39 cb).run Try.prog w = .ok (.enter 39 cb) w := by kernel_rfl
theorem enter40 (cb : Array Value) (w : World) : (callFunc 40 cb).run Try.prog w = .ok (.enter 40 cb) w := by kernel_rfl
theorem enter41 (cb : Array Value) (w : World) : (callFunc 41 cb).run Try.prog w = .ok (.enter 41 cb) w := by kernel_rfl
theorem enterL (i : Nat) (cb : Array Value) (w : World) : (callFunc (layF i) cb).run Try.prog w = .ok (.enter (layF i) cb) w := by unfold layF; split; exact enter38 cb w; exact enter40 cb w
theorem enterT (i : Nat) (cb : Array Value) (w : World) : (callFunc (takF i) cb).run Try.prog w = .ok (.enter (takF i) cb) w := by unfold takF; split; exact enter39 cb w; exact enter41 cb w
/-- fieldAt, by the number's place -/
theorem field_any (c i : Nat) (w : World) (hi : i < 5) :
    Calls Try.prog 36 #[.pointer (some ⟨c, i + 1, none⟩), .int .i64 (wid i : Nat)] w fun e w' => ∃ a b, e = .returned (.agg (fArr i a b)) ∧ Fld w' c i a b ∧ w.heap.size ≤ a ∧ w.heap.size ≤ b ∧ Below w.heap.size w w' := by
  refine (field36_any _ _ w).mono ?_
  rintro e w' ⟨a, b, rfl, h1, h2, h3, h4, h5⟩
  refine ⟨a, b, ?_, ⟨?_, h2⟩, h3, h4, h5⟩
  · unfold fArr layF takF; rw [if_pos hi, if_pos hi]
  · unfold ptrT; rw [if_pos hi]; exact h1
theorem field_big (c i : Nat) (w : World) (hi : ¬ i < 5) :
    Calls Try.prog 37 #[.pointer (some ⟨c, i + 1, none⟩), .int .i64 (wid i : Nat)] w fun e w' => ∃ a b, e = .returned (.agg (fArr i a b)) ∧ Fld w' c i a b ∧ w.heap.size ≤ a ∧ w.heap.size ≤ b ∧ Below w.heap.size w w' := by
  refine (field37_any _ _ w).mono ?_
  rintro e w' ⟨a, b, rfl, h1, h2, h3, h4, h5⟩
  refine ⟨a, b, ?_, ⟨?_, h2⟩, h3, h4, h5⟩
  · unfold fArr layF takF; rw [if_neg hi, if_neg hi]
  · unfold ptrT; rw [if_neg hi]; exact h1
end Go.Proofs.Ytgcliallkfnhaaa
