/- The contract of the reference's Remove. -/
import Derived.Test.YtflbggehgjllcaaDoorRG
import Derived.Test.YtflbggehgjllcaaDoorDK
namespace Go.Proofs.YtflbggehgjllcaaDoor
open Go.RowKit
set_option linter.unusedVariables false
/-- the reference's book and a row of ints of the call's own, behind k entries -/
structure RX (P : Nat → Prop) (w : World) (rb : Nat) (b : Bk) (m : Int) (k : Nat) (u : Value) (wr : World) : Prop where
  pb : RB (fun j => P j ∧ u.ownBlock ≠ some j) wr rb { b with l := remK b.l m k }
  row : IRow wr u (hitK b.l m k)
  own : ∀ g, u.ownBlock = some g → w.heap.size ≤ g
  kp : Kp P w wr
section
variable {P : Nat → Prop} {w wr w2 : World} {rb : Nat} {b : Bk} {m : Int} {k : Nat} {u : Value}
theorem RX.stay (h : RX P w rb b m k u wr) (hk : k < b.l.length) (hh : b.l[k].hit m = false) (hb : Below wr.heap.size wr w2) : RX P w rb b m (k + 1) u w2 := by
  refine ⟨?_, ?_, h.own, h.kp.trans (Kp.of_below hb)⟩
  · rw [remK_stay hk hh]; exact below_rb h.pb hb
  · rw [hitK_no hk hh]; exact orow_kp h.row (Kp.of_below (F := fun _ => False) hb) (fun _ _ h => h)
/-- the entry is set, and its Id appended -/
theorem RX.hit (h : RX P w rb b m k u wr) (hk : k < b.l.length) (hh : b.l[k].hit m = true) (hlen : b.l.length ≤ 1000) (hf : ∀ j, w.heap.size ≤ j → P j) (cs : Array Value) :
    Calls Tryd.prog 52 #[.pointer (some ⟨rb, 0, none⟩), .int .i64 (k : Int), .agg #[.int .i64 (b.l[k]).d.id, .int .i64 (b.l[k]).d.a, .int .i64 (b.l[k]).d.b, .int .i64 (b.l[k]).d.sc, .int .i64 (b.l[k]).d.bc, .int .i64 (b.l[k]).d.s, .int .i64 (b.l[k]).d.t, .int .i64 4, .bool (b.l[k]).byA, .bool (b.l[k]).byB, .int .i64 (b.l[k]).nth]] (wr.alloc (.cells cs 61)) fun e w2 => e = .returned (.tuple #[]) ∧ (∀ v, cs[0]? = some v → w2.cell? ⟨wr.heap.size, 0, none⟩ = some v) ∧
      ∀ o, (w2.alloc o).ownsRow 0 3 1 u (hitK b.l m k).length ((hitK b.l m k).map (Value.int .i64)) ∧ ∀ v' w', w'.ownsRow 0 3 1 v' ((hitK b.l m k).length + 1) ((hitK b.l m k).map (Value.int .i64) ++ [.int .i64 (b.l[k]).d.id]) → (w2.alloc o).grownBy w' u.ownBlock → (∀ g', v'.ownBlock = some g' → u.ownBlock = some g' ∨ w2.heap.size + 1 ≤ g') → RX P w rb b m (k + 1) v' w' := by
  have hs1 : (wr.alloc (.cells cs 61)).heap.size = wr.heap.size + 1 := by simp
  have hb := (Below.refl wr.heap.size wr).alloc (Nat.le_refl _) (.cells cs 61)
  have hwz := h.kp.size
  have hR0 : RB (fun j => P j ∧ u.ownBlock ≠ some j ∧ j ≠ wr.heap.size) wr rb { b with l := remK b.l m k } := (RB.live rb _).weak h.pb fun j hj hp => ⟨hp.1, hp.2, by omega⟩
  have hR1 := below_rb hR0 hb
  have hr1 : IRow (wr.alloc (.cells cs 61)) u (hitK b.l m k) := orow_kp h.row (Kp.of_below (F := fun _ => False) hb) (fun _ _ h => h)
  have hlk : k < (remK b.l m k).length := by rw [remK_len]; exact hk
  have hx : b.l[k].rem m = { b.l[k] with st := 4 } := by unfold En.rem; rw [hh]; rfl
  refine (rset_at hR1 k hlk { b.l[k] with st := 4 } _ rfl (by show (remK b.l m k).length ≤ 1000; rw [remK_len]; exact hlen) fun j hj => ⟨hf j (by omega), fun e => by have := (World.ownsRow.lt h.row j e).2; omega, by omega⟩).mono ?_
  rintro e w2 ⟨h1, h2, h3⟩
  rw [show (remK b.l m k).set k { b.l[k] with st := 4 } = remK b.l m (k + 1) by rw [← hx]; exact remK_step hk] at h2
  have hz2 := h3.size
  have r2 : IRow w2 u (hitK b.l m k) := orow_kp hr1 h3 fun g hg hp => hp.2.1 hg
  refine ⟨h1, fun v hv => h3.cell (obj_cell (heap_alloc_new wr (.cells cs 61)) hv) fun hp => hp.2.2 rfl, fun o => ⟨orow_kept r2 fun g' hg' => Below.heap_alloc _ _ _ (World.ownsRow.lt r2 g' hg').2, fun v' w' q1 q2 q3 => ?_⟩⟩
  have a1 : RB (fun j => P j ∧ u.ownBlock ≠ some j ∧ v'.ownBlock ≠ some j) w2 rb { b with l := remK b.l m (k + 1) } := (RB.live rb _).weak h2 fun j hj hp => ⟨hp.1, hp.2.1, fun e => by
    rcases q3 j e with h4 | h4
    · exact hp.2.1 h4
    · omega⟩
  have a2 := below_rb a1 ((Below.refl w2.heap.size w2).alloc (Nat.le_refl _) o)
  have a3 := (RB.live rb _).kept (F := fun j => u.ownBlock = some j) a2 ((Kp.refl _ _).grown q2 fun k hk => .inl hk) fun j _ hp e => hp.2.1 e
  refine ⟨(RB.live rb _).weak a3 fun j _ hp => ⟨hp.1, hp.2.2⟩, ?_, fun g' hg' => ?_, ?_⟩
  · rw [hitK_yes hk hh]; exact irow_app q1
  · rcases q3 g' hg' with h4 | h4
    · exact h.own g' h4
    · omega
  · have t1 : Kp P w (wr.alloc (.cells cs 61)) := h.kp.trans (Kp.of_below hb)
    have t2 : Kp P w w2 := t1.trans (h3.mono fun j _ hp => hp.1)
    exact (t2.alloc o).grown q2 fun g' hg' => .inr (h.own g' hg')
set_option maxHeartbeats 4000000 in
set_option maxRecDepth 100000 in
theorem rrem_any (h : RB P w rb b) (m : Int) (hlen : b.l.length ≤ 1000) (hf : ∀ j, w.heap.size ≤ j → P j) :
    Calls Tryd.prog 27 #[.pointer (some ⟨rb, 0, none⟩), .int .i64 m] w fun e w' => ∃ u, e = .returned u ∧ IRow w' u (b.rem m).1 ∧ (∀ g, u.ownBlock = some g → w.heap.size ≤ g) ∧ RB P w' rb (b.rem m).2 ∧ Kp P w w' := by
  have hz := ZR.nil w
  have h0 : RX P w rb b m 0 (.slice (some ⟨w.heap.size, 0, none⟩) 0 0) (w.alloc (.cells #[] 3)) := by
    refine ⟨below_rb ((RB.live rb _).weak (by rw [remK_zero]; exact h) fun j hj hp => ⟨hp, by simp [Value.ownBlock]; omega⟩) hz.bl, hz.row, hz.own, Kp.of_below hz.bl⟩
  have hres : b.rem m = (hitK b.l m b.l.length, { b with l := remK b.l m b.l.length }) := by unfold Bk.rem hitK; rw [remK_all, List.take_length]
  rw [hres]
  clear hres hz
  obtain ⟨n, hn⟩ : ∃ n, n = b.l.length := ⟨_, rfl⟩
  have hn1 : n ≤ 1000 := by omega
  rw [← hn] at ⊢
  replace h := Lib.hid h
  replace h0 := Lib.hid h0
  replace hn := Lib.hid hn
  replace hf := Lib.hid hf
  go_enter Tryd.func27, Tryd.ntmps27
  go_wp2_with fail
  go_loopw [5, 6] (fun u i wr => ∃ k : Nat, k ≤ n ∧ i = .int .i64 (k : Int) ∧ Hid (RX P w rb b m k u wr)) (fun _ i _ => n - (intOf i).toNat)
  case atStart => exact ⟨0, by omega, rfl, h0⟩
  case round =>
    obtain ⟨k, hk, rfl, hS⟩ := hrel
    obtain ⟨v, hpb⟩ := hS.out.pb
    obtain ⟨p, cap, rfl, -, -, -⟩ := orow_shape hpb.row
    have c2 : wr.cell? ⟨rb, 2, none⟩ = some (.slice p n cap) := by
      have h1 : wr.cell? ⟨rb, 2, none⟩ = some (.slice p (remK b.l m k).length cap) := obj_cell hpb.obj rfl
      rw [remK_len, ← hn.out] at h1; exact h1
    by_cases hkn : k < n
    · have hkz : (k : Int) < (n : Int) := by omega
      have hkb : k < b.l.length := by have := hn.out; omega
      have hkl : k < (remK b.l m k).length := by rw [remK_len]; exact hkb
      obtain ⟨g, cap2, cur2, hgs, -⟩ := orow_some hpb.row (by show 0 < (remK b.l m k).length; omega)
      injection hgs with hgs _ _
      subst hgs
      have hent := hpb.entry (i := k) hkl rfl
      have hg2 := remK_get (m := m) hkb hkl
      simp only [hg2] at hent
      obtain ⟨e0, e1, e2, e3, e4, e5, e6, e7, e8, e9, e10⟩ := hent
      have hhit := En.hit_eq b.l[k] m
      have hle : Hid ((hitK b.l m k).length ≤ 1000) := Lib.hid (by have := hitK_le b.l m k; omega)
      have hno := fun (hh : b.l[k].hit m = false) o => hS.out.stay hkb hh ((Below.refl wr.heap.size wr).alloc (Nat.le_refl _) o)
      have hyes := fun (hh : b.l[k].hit m = true) cs => hS.out.hit hkb hh (by have := hn.out; omega) hf.out cs
      have hop : (b.l[k]).open = (((b.l[k]).st == 1) || ((b.l[k]).st == 2)) := by unfold En.open; rw [Bool.eq_iff_iff]; simp
      rw [hop] at hhit
      replace hpb := Lib.hid hpb
      replace hS := Lib.hid hS
      generalize b.l[k] = x at e0 e1 e2 e3 e4 e5 e6 e7 e8 e9 e10 hhit hno hyes hop
      clear hop hg2
      cases hs1 : (x.st == 1) <;> cases hs2 : (x.st == 2) <;> cases ha : (x.d.a == m) <;> cases hb : (x.d.b == m) <;> rw [hs1, hs2, ha, hb] at hhit
      all_goals
        first
          | (have hh : x.hit m = false := by rw [hhit]; rfl
             have hno := Lib.hid (hno hh)
             clear hyes hhit hh
             go_wp2_with fail
             go_roundw
             case rel => exact ⟨k + 1, by omega, by go_num, Lib.hid (hno.out _)⟩
             case measure => simp [intOf]; omega)
          | (have hh : x.hit m = true := by rw [hhit]; rfl
             have hyes := Lib.hid (hyes hh)
             clear hno hhit hh
             go_wp2_with (first | (go_at_call 52; (with_reducible refine (hyes.out _).mono ?_); rintro e w2 ⟨rfl, hcc, hall⟩; have k0 := hcc _ rfl; have hone := Lib.hid (one_cell (heap_alloc_new w2 (.cells #[.int .i64 x.d.id] 3))); replace hall := Lib.hid (hall (.cells #[.int .i64 x.d.id] 3)); clear hcc) | (at_builtin; refine wpList_app1 38 3 1 8 _ Tryd.underlying38 info3 (by rfl) (by omega) (by omega) rfl _ _ rfl rfl _ _ _ rfl hall.out.1 ⟨w2.heap.size, 0, none⟩ [.int .i64 x.d.id] rfl rfl hone.out (fun u hu => by obtain rfl := List.mem_singleton.1 hu; rfl) (by have := hle.out; omega) ?_; intro v' w' hr' hg' hv'; replace hr' := Lib.hid hr'; replace hg' := Lib.hid hg'; have hv2 : Hid (∀ g', v'.ownBlock = some g' → u5.ownBlock = some g' ∨ w2.heap.size + 1 ≤ g') := Lib.hid (fun g' h => (hv' g' h).imp (fun h => h) (fun h => by simpa using h)); clear hv'))
             go_roundw
             case rel => exact ⟨k + 1, by omega, by go_num, Lib.hid (hall.out.2 _ _ hr'.out hg'.out hv2.out)⟩
             case measure => simp [intOf]; omega)
    · obtain rfl : k = n := by omega
      have hkz : ¬ (k : Int) < (k : Int) := by omega
      replace hpb := Lib.hid hpb
      go_wp2_with fail
      go_ret
      exact ⟨_, rfl, hS.out.row, hS.out.own, (RB.live rb _).weak hS.out.pb fun j _ hp => hp.1, hS.out.kp⟩
end
end Go.Proofs.YtflbggehgjllcaaDoor
