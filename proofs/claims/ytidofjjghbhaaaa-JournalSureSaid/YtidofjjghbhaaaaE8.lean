/- The contract of the program's Move. -/
import Derived.Test.YtidofjjghbhaaaaE7
namespace Go.Proofs.Ytidofjjghbhaaaa
open Go.RowKit
set_option linter.unusedVariables false

theorem upd_nil_own {vs : Nat → Value} {k i g : Nat} (h : (upd vs k (.slice none 0 0) i).ownBlock = some g) : i ≠ k ∧ (vs i).ownBlock = some g := by
  by_cases e : i = k
  · subst e; rw [upd_same] at h; simp [Value.ownBlock] at h
  · rw [upd_other _ _ e] at h; exact ⟨e, h⟩
/-- one file's row is another one's, which has none then -/
theorem Rows4.move {P : Nat → Prop} {w : World} {b : Nat} {vs : Nat → Value} {B : Nat → List UInt8} (h : Rows4 P w b vs B) {k j : Nat} (hk : k < 4) (hj : j < 4) :
    Rows4 P w b (upd (upd vs k (.slice none 0 0)) j (vs k)) (upd (upd B k []) j (B k)) := by
  refine ⟨fun i hi => ?_, fun i hi g hg => ?_, fun i i' hi hi' hii g hg => ?_⟩
  · by_cases e : i = j
    · subst e; rw [upd_same, upd_same]; exact h.row k hk
    · rw [upd_other _ _ e, upd_other _ _ e]
      by_cases e2 : i = k
      · subst e2; rw [upd_same, upd_same]; exact Row.nil _
      · rw [upd_other _ _ e2, upd_other _ _ e2]; exact h.row i hi
  · by_cases e : i = j
    · subst e; rw [upd_same] at hg; exact h.perm k hk g hg
    · rw [upd_other _ _ e] at hg
      exact h.perm i hi g (upd_nil_own hg).2
  · by_cases e : i = j
    · subst e
      rw [upd_same] at hg
      rw [upd_other _ _ (Ne.symm hii)]
      intro hg'
      obtain ⟨h1, h2⟩ := upd_nil_own hg'
      exact h.apart k i' hk hi' (Ne.symm h1) g hg h2
    · rw [upd_other _ _ e] at hg
      obtain ⟨h1, h2⟩ := upd_nil_own hg
      by_cases e' : i' = j
      · subst e'; rw [upd_same]; exact h.apart i k hi hk h1 g h2
      · rw [upd_other _ _ e']
        intro hg'
        exact h.apart i i' hi hi' hii g h2 (upd_nil_own hg').2

/-- a file's two cells -/
def setF (w : World) (b k : Nat) (v : Value) (n : Nat) : World := (w.setCell ⟨b, 1 + k * 2, none⟩ v).setCell ⟨b, 1 + k * 2 + 1, none⟩ (.int .i64 (n : Nat))
theorem setF_other (w : World) (b k : Nat) (v : Value) (n : Nat) {j : Nat} (hj : j ≠ b) : (setF w b k v n).heap[j]? = w.heap[j]? := (obj_other _ hj).trans (obj_other _ hj)
theorem setF_cell {w : World} {b k n x : Nat} {v u : Value} (h : w.cell? ⟨x, 0, none⟩ = some u) : (setF w b k v n).cell? ⟨x, 0, none⟩ = some u := by
  unfold setF
  rw [World.cell?_setCell_other _ _ _ _ (by simp), World.cell?_setCell_other _ _ _ _ (by simp)]; exact h
theorem setF_cell' {w : World} {b k n x i : Nat} {v u : Value} (h : w.cell? ⟨x, i, none⟩ = some u) (hx : x ≠ b) : (setF w b k v n).cell? ⟨x, i, none⟩ = some u := by
  unfold setF
  rw [World.cell?_setCell_other _ _ _ _ (fun e => hx (congrArg Addr.block e).symm), World.cell?_setCell_other _ _ _ _ (fun e => hx (congrArg Addr.block e).symm)]; exact h
theorem setF_kp {F : Nat → Prop} {a w : World} {b k n : Nat} {v : Value} (h : Kp F a w) (hb : F b) : Kp F a (setF w b k v n) := (h.setCell (.inl hb) _).setCell (.inl hb) _
theorem setF_obj {w : World} {b k n room : Nat} {v : Value} {vs : Nat → Value} {S : Nat → Nat} {down : Bool} {fuse : Int} (h : w.heap[b]? = some (.cells (dArr room vs S down fuse) 72 (0, 0))) (hk : k < 4) :
    (setF w b k v n).heap[b]? = some (.cells (dArr room (upd vs k v) (upd S k n) down fuse) 72 (0, 0)) := by
  have ho := obj_set (obj_set h (1 + k * 2) v) (1 + k * 2 + 1) (.int .i64 (n : Nat))
  rw [dArr_set_file _ _ _ _ _ k hk, dArr_set_sure _ _ _ _ _ k hk] at ho
  exact ho

set_option maxHeartbeats 2000000 in
set_option maxRecDepth 100000 in
theorem movC_any (P : Nat → Prop) (x y z b k j : Nat) (m : DM) (vs : Nat → Value) (w : World) (h : IsDv P w b m vs) (hP : ∀ j, w.heap.size ≤ j → P j)
    (hx : w.cell? ⟨x, 0, none⟩ = some (.pointer (some ⟨b, 0, none⟩))) (hy : w.cell? ⟨y, 0, none⟩ = some (.int .i64 (k : Int))) (hz : w.cell? ⟨z, 0, none⟩ = some (.int .i64 (j : Int))) (hk : k < 4) (hj : j < 4)
    (hxb : x ≠ b) (hyb : y ≠ b) (hzb : z ≠ b) :
    Calls Try.prog 85 #[.pointer (some ⟨x, 0, none⟩), .pointer (some ⟨y, 0, none⟩), .pointer (some ⟨z, 0, none⟩)] w fun e w' => ∃ v, e = .returned v ∧ Ending.returned v = .returned (.int .i64 0) ∧
      IsD P w' b (m.put (upd (upd m.B k []) j (m.B k)) (upd (upd m.S k 0) j (m.S k))) ∧ Kp P w w' := by
  obtain ⟨p, cap, hv, hc, hp⟩ := h.rows.slice hk
  have h0 := h.file hk
  have h1 := h.sure hk
  rw [hv] at h0
  have hkz : (k : Int) < 4 := by omega
  have hjz : (j : Int) < 4 := by omega
  have hb0 : ∀ w, (Instr.build 69 #[]).run Try.prog w = .ok (.agg #[.slice none 0 0, .int .i64 0]) w := fun w => by kernel_rfl
  have hbl := obj_lt h.obj
  have hxl := World.block_lt_of_cell? w _ hx
  have hyl := World.block_lt_of_cell? w _ hy
  have hzl := World.block_lt_of_cell? w _ hz
  -- the world behind the first statement
  have hK1 : Kp (fun _ => False) w (w.alloc (.cells #[.slice p (m.B k).length cap, .int .i64 (m.S k : Nat)] 69)).drew := ((Kp.refl _ w).alloc _).drew
  have hD1 := h.kept hK1 (fun _ _ _ h => h)
  have x1 := hK1.cell hx (fun h => h)
  have y1 := hK1.cell hy (fun h => h)
  have z1 := hK1.cell hz (fun h => h)
  have q0 : (w.alloc (.cells #[.slice p (m.B k).length cap, .int .i64 (m.S k : Nat)] 69)).drew.cell? ⟨w.heap.size, 0, none⟩ = some (.slice p (m.B k).length cap) := cell_later2 rfl
  have q1 : (w.alloc (.cells #[.slice p (m.B k).length cap, .int .i64 (m.S k : Nat)] 69)).drew.cell? ⟨w.heap.size, 1, none⟩ = some (.int .i64 (m.S k : Nat)) := cell_later2 rfl
  have f1 : ∀ i, (w.alloc (.cells #[.slice p (m.B k).length cap, .int .i64 (m.S k : Nat)] 69)).drew.frozen? ⟨b, i, none⟩ = false := fun i => obj_free hD1.obj i
  have a0 := hD1.file hk
  have a1 := hD1.sure hk
  have b0 := hD1.file hj
  have b1 := hD1.sure hj
  have hown := h.own
  replace hD1 := Lib.hid hD1
  replace hK1 := Lib.hid hK1
  replace h := Lib.hid h
  replace hv := Lib.hid hv
  go_enter Try.func85, Try.ntmps85
  go_upto_region 1 with (fail)
  go_cut [4] (fun s wc => s = .pointer (some ⟨w.heap.size, 0, none⟩) ∧ wc = (w.alloc (.cells #[.slice p (m.B k).length cap, .int .i64 (m.S k : Nat)] 69)).drew)
  case first =>
    clear x1 y1 z1 q0 q1 f1 a0 a1 b0 b1
    generalize (m.B k).length = n at *
    generalize m.S k = s at *
    go_region_with (fail)
    all_goals (go_wp2_with fail; go_meet; exact ⟨rfl, rfl⟩)
  case rest =>
    clear h0 h1 hx hy hz
    obtain ⟨rfl, hwc⟩ := hcut
    rw [← hwc] at x1 y1 z1 q0 q1 f1 a0 a1 b0 b1 hD1 hK1
    replace hwc := Lib.hid hwc
    go_wp2_with fail
    go_still_tail 6, (by kernel_rfl)
    change wpList _ _ _ _ _ (World.drew _)
    have hO2 : (setF wc b k (.slice none 0 0) 0).drew.heap[b]? = _ := setF_obj (k := k) (v := .slice none 0 0) (n := 0) hD1.out.obj hk
    have x2 : (setF wc b k (.slice none 0 0) 0).drew.cell? _ = _ := setF_cell (b := b) (k := k) (v := .slice none 0 0) (n := 0) x1
    have y2 : (setF wc b k (.slice none 0 0) 0).drew.cell? _ = _ := setF_cell (b := b) (k := k) (v := .slice none 0 0) (n := 0) y1
    have z2 : (setF wc b k (.slice none 0 0) 0).drew.cell? _ = _ := setF_cell (b := b) (k := k) (v := .slice none 0 0) (n := 0) z1
    have p0 : (setF wc b k (.slice none 0 0) 0).drew.cell? _ = _ := setF_cell' (b := b) (k := k) (v := .slice none 0 0) (n := 0) q0 (by omega)
    have p1 : (setF wc b k (.slice none 0 0) 0).drew.cell? _ = _ := setF_cell' (b := b) (k := k) (v := .slice none 0 0) (n := 0) q1 (by omega)
    have hK2 : Kp (· = b) w (setF wc b k (.slice none 0 0) 0).drew := (setF_kp (b := b) (k := k) (v := .slice none 0 0) (n := 0) (hK1.out.mono (G := (· = b)) fun _ _ h => h.elim) rfl).drew
    have c0 := obj_cell hO2 (dArr_file _ _ _ _ _ j hj)
    have c1 := obj_cell hO2 (dArr_sure _ _ _ _ _ j hj)
    have f2 := obj_free hO2
    have hR2 : Rows4 P (setF wc b k (.slice none 0 0) 0).drew b vs m.B := hD1.out.rows.kept fun j _ _ hj => setF_other _ _ _ _ _ hj
    replace hO2 := Lib.hid hO2
    replace hK2 := Lib.hid hK2
    replace hR2 := Lib.hid hR2
    replace x2 := Lib.hid x2
    replace y2 := Lib.hid y2
    replace z2 := Lib.hid z2
    replace p0 := Lib.hid p0
    replace p1 := Lib.hid p1
    replace c0 := Lib.hid c0
    replace c1 := Lib.hid c1
    replace f2 := Lib.hid f2
    go_upto_region 3 with (fail)
    change Code.wp _ _ _ _ (setF wc b k (.slice none 0 0) 0).drew
    clear x1 y1 z1 q0 q1 f1 a0 a1 b0 b1
    generalize (setF wc b k (.slice none 0 0) 0).drew = W2 at *
    have x3 := x2.out
    have y3 := y2.out
    have z3 := z2.out
    have p3 := p0.out
    have p4 := p1.out
    have c3 := c0.out
    have c4 := c1.out
    have f3 := f2.out
    go_still_tail 6, (by kernel_rfl)
    change wpList _ _ _ _ _ (World.drew _)
    go_wp2_with fail
    go_ret
    refine ⟨_, rfl, rfl, ⟨upd (upd vs k (.slice none 0 0)) j (vs k), ?_⟩, ?_⟩
    · have ho := setF_obj (k := j) (v := .slice p (m.B k).length cap) (n := m.S k) hO2.out hj
      rw [← hv.out] at ho
      refine ⟨?_, hown, (hR2.out.move hk hj).kept fun i _ _ hi => ?_⟩
      · rw [← hv.out]; exact ho
      · exact setF_other W2 b j _ _ hi
    · exact (setF_kp (k := j) (hK2.out.mono (G := P) fun i _ e => by subst e; exact hown) hown).drew
set_option maxHeartbeats 2000000 in
set_option maxRecDepth 100000 in
theorem mov_any (P : Nat → Prop) (b : Nat) (m : DM) (f t : Int) (w : World) (h : IsD P w b m) (ok : m.Ok) (hP : ∀ j, w.heap.size ≤ j → P j) :
    Calls Try.prog 65 #[.pointer (some ⟨b, 0, none⟩), .int .i64 f, .int .i64 t] w fun e w' => e = .returned (.int .i64 (m.mov f t).1) ∧ IsD P w' b (m.mov f t).2 ∧ Kp P w w' := by
  obtain ⟨vs, h⟩ := h
  have hb := obj_lt h.obj
  have hH := fun w => has_any f w
  have hG := fun w => has_any t w
  have hkk := box3_k P w b (.int .i64 f) (.int .i64 t) 3
  have hD := h.kept (box3_k (fun _ => False) w b (.int .i64 f) (.int .i64 t) 3) (fun _ _ _ h => h)
  have c0 := box3_0 w b (.int .i64 f) (.int .i64 t) 3
  have c1 := box3_1 w b (.int .i64 f) (.int .i64 t) 3
  have c2 := box3_2 w b (.int .i64 f) (.int .i64 t) 3
  cases hf : isFile f with
  | false =>
    have e1 : m.mov f t = (1, m) := by unfold DM.mov; rw [hf]; rfl
    rw [e1]
    rw [hf] at hH
    replace hH := Lib.hid hH
    replace h := Lib.hid h
    replace hD := Lib.hid hD
    replace hkk := Lib.hid hkk
    clear e1 hf c0 c1 c2 hG
    go_enter Try.func65, Try.ntmps65
    go_wp2_with (first | (go_at_call 30; refine (hH.out _).mono ?_; rintro e w' ⟨rfl, rfl⟩))
    go_ret
    exact ⟨rfl, ⟨_, hD.out⟩, hkk.out⟩
  | true =>
    rw [hf] at hH
    replace hH := Lib.hid hH
    cases ht : isFile t with
    | false =>
      have e1 : m.mov f t = (1, m) := by unfold DM.mov; rw [hf, ht]; rfl
      rw [e1]
      rw [ht] at hG
      replace hG := Lib.hid hG
      replace h := Lib.hid h
      replace hD := Lib.hid hD
      replace hkk := Lib.hid hkk
      clear e1 hf ht c0 c1 c2
      go_enter Try.func65, Try.ntmps65
      go_wp2_with (first | (go_at_call 30; (with_reducible refine (hH.out _).mono ?_); rintro e w' ⟨rfl, rfl⟩) | (go_at_call 30; (with_reducible refine (hG.out _).mono ?_); rintro e w' ⟨rfl, rfl⟩))
      go_ret
      exact ⟨rfl, ⟨_, hD.out⟩, hkk.out⟩
    | true =>
      rw [ht] at hG
      replace hG := Lib.hid hG
      have hfc : (isFile f && isFile t) = true := by rw [hf, ht]; rfl
      obtain ⟨k, rfl, hk⟩ := isFile_nat hf
      obtain ⟨j, rfl, hj⟩ := isFile_nat ht
      have hDo := do_dv P b m vs 85 #[.pointer (some ⟨w.heap.size, 0, none⟩), .pointer (some ⟨w.heap.size + 1, 0, none⟩), .pointer (some ⟨w.heap.size + 2, 0, none⟩)] _ hD ok (enter32 _) (m.mov (k : Int) (j : Int))
        (fun hp => by unfold DM.mov; rw [hfc, hp]; rfl)
        (fun hp w1 hD1 hK1 => by
          have e1 : m.mov (k : Int) (j : Int) = (0, m.burnt.put (upd (upd m.burnt.B k []) j (m.burnt.B k)) (upd (upd m.burnt.S k 0) j (m.burnt.S k))) := by
            unfold DM.mov; rw [hfc, hp, m.burnt_B, m.burnt_S]; rfl
          rw [e1]
          refine (movC_any P w.heap.size (w.heap.size + 1) (w.heap.size + 2) b k j m.burnt vs w1 hD1 (fun j hj => hP j (by have := hK1.size; have := (box3_k P w b (.int .i64 (k : Int)) (.int .i64 (j : Int)) 3).size; have := hkk.size; omega)) ?_ ?_ ?_ hk hj (by omega) (by omega) (by omega)).mono ?_
          · exact hK1.cell c0 (by show ¬ (w.heap.size = b); omega)
          · exact hK1.cell c1 (by show ¬ (w.heap.size + 1 = b); omega)
          · exact hK1.cell c2 (by show ¬ (w.heap.size + 2 = b); omega)
          · rintro e w' ⟨v, rfl, hv, hD2, hK2⟩
            exact ⟨v, rfl, hv, hD2, hK2⟩)
      replace h := Lib.hid h
      replace hD := Lib.hid hD
      replace hkk := Lib.hid hkk
      replace hDo := Lib.hid hDo
      clear hf ht hfc c0 c1 c2
      go_enter Try.func65, Try.ntmps65
      go_wp2_with (first | (go_at_call 30; (with_reducible refine (hH.out _).mono ?_); rintro e w' ⟨rfl, rfl⟩) | (go_at_call 30; (with_reducible refine (hG.out _).mono ?_); rintro e w' ⟨rfl, rfl⟩) | (go_at_call 31; refine (hDo.out).mono ?_; rintro e w' ⟨rfl, hD2, hK2⟩))
      go_ret
      exact ⟨rfl, hD2, hkk.out.trans hK2⟩
end Go.Proofs.Ytidofjjghbhaaaa
