/- The contract of the program's Append. -/
import Derived.Test.YtidofjjghbhaaaaE6
namespace Go.Proofs.Ytidofjjghbhaaaa
open Go.RowKit
set_option linter.unusedVariables false

/-- bytes behind a file's -/
theorem lay_dv {P : Nat → Prop} {b k : Nat} {m : DM} {vs : Nat → Value} {w : World} (h : IsDv P w b m vs) (hk : k < 4) (hP : ∀ j, w.heap.size ≤ j → P j) (s : ByteArray) (hs : (m.B k).length + s.size ≤ 16777216) :
    Calls Try.prog 34 #[.pointer (some ⟨b, 1 + k * 2, none⟩), .string s] w fun e w' => e = .returned (.tuple #[]) ∧ IsD P w' b (m.put (upd m.B k (m.B k ++ bl s)) m.S) ∧ Kp (fun j => j = b ∨ (vs k).ownBlock = some j) w w' := by
  have hb := obj_lt h.obj
  refine (lay_any b (1 + k * 2) (vs k) (m.B k) s w (h.file hk) (obj_free h.obj _) (h.rows.row k hk) (fun e => (h.rows.perm k hk b e).2 rfl) hs).mono ?_
  rintro e w' ⟨rfl, v', w1, rfl, hr, hg, hv⟩
  have hne : (vs k).ownBlock ≠ some b := fun e => (h.rows.perm k hk b e).2 rfl
  have hob : w1.heap[b]? = some (.cells (dArr m.room vs m.S m.down m.fuse) 72 (0, 0)) := (hg.block b hb (fun e => hne e.symm)).trans h.obj
  have hvb : ∀ g, v'.ownBlock = some g → g ≠ b := by
    rintro g hgv rfl
    rcases hv g hgv with h1 | h1
    · exact hne h1
    · omega
  have hko : ∀ j, j ≠ b → (w1.setCell ⟨b, 1 + k * 2, none⟩ v').heap[j]? = w1.heap[j]? := fun j hj => obj_other _ hj
  refine ⟨rfl, ⟨upd vs k v', ?_, h.own, ?_⟩, ?_⟩
  · have ho := obj_set hob (1 + k * 2) v'
    rw [dArr_set_file _ _ _ _ _ k hk] at ho
    exact ho
  · refine h.rows.put hk (hr.kept fun g hgv => hko g (hvb g hgv)) (fun g hgv => ?_) (fun j hj hjk g hgj => ?_) hb
    · rcases hv g hgv with h1 | h1
      · exact .inl h1
      · exact .inr ⟨h1, hP g h1⟩
    · rw [hko g (h.rows.perm j hj g hgj).2]
      exact hg.block g ((h.rows.row j hj).lt g hgj) fun e => h.rows.apart j k hj hk hjk g hgj e.symm
  · exact ((Kp.refl _ w).grown hg fun j hj => .inl (.inr hj)).setCell (.inl (.inl rfl)) _

set_option maxHeartbeats 2000000 in
set_option maxRecDepth 100000 in
theorem appC_any (P : Nat → Prop) (x y z b k : Nat) (s : ByteArray) (m : DM) (vs : Nat → Value) (w : World) (h : IsDv P w b m vs) (ok : m.Ok) (hP : ∀ j, w.heap.size ≤ j → P j)
    (hz : w.cell? ⟨z, 0, none⟩ = some (.string s)) (hx : w.cell? ⟨x, 0, none⟩ = some (.pointer (some ⟨b, 0, none⟩))) (hy : w.cell? ⟨y, 0, none⟩ = some (.int .i64 (k : Int))) (hk : k < 4)
    (hxf : x ≠ b ∧ (vs k).ownBlock ≠ some x) (hyf : y ≠ b ∧ (vs k).ownBlock ≠ some y) (hzf : z ≠ b ∧ (vs k).ownBlock ≠ some z) :
    Calls Try.prog 32 #[.pointer (some ⟨z, 0, none⟩), .pointer (some ⟨x, 0, none⟩), .pointer (some ⟨y, 0, none⟩)] w fun e w' => ∃ v, e = .returned v ∧ Ending.returned v = .returned (.int .i64 (if m.room - m.tot < s.size then 4 else 0)) ∧
      IsD P w' b (if m.room - m.tot < s.size then m else m.put (upd m.B k (m.B k ++ bl s)) m.S) ∧ Kp P w w' := by
  have hL := fun w h => left_any P b m vs w h ok
  replace hL := Lib.hid hL
  have hkz : (k : Int) < 4 := by omega
  have hxl := World.block_lt_of_cell? w _ hx
  have hyl := World.block_lt_of_cell? w _ hy
  have hzl := World.block_lt_of_cell? w _ hz
  have hdr : IsDv P w.drew b m vs := h.drewN 1
  have ht := ok.tot
  have hr := ok.room
  have hlen := ok.len hk
  generalize hleft : m.room - m.tot = left at *
  replace hdr := Lib.hid hdr
  replace hP := Lib.hid hP
  have hl3 : Hid ((m.B k).length + left ≤ 16777216) := Lib.hid (by omega)
  replace hleft := Lib.hid hleft
  clear ht hr hlen
  by_cases hfit : left < s.size
  · rw [if_pos hfit, if_pos hfit]
    have hd : decide ((left : Int) < (s.size : Int)) = true := decide_eq_true (by omega)
    replace h := Lib.hid h
    go_enter Try.func32, Try.ntmps32
    go_wp2_with fail
    go_region_held3 (fun w' => w'.cell? ⟨x, 0, none⟩ = some (.pointer (some ⟨b, 0, none⟩)) ∧ w'.cell? ⟨z, 0, none⟩ = some (.string s)) (first | exact ⟨hx, hz⟩ | exact hHeld | exact ⟨kx, kz⟩)
      (first | (go_at_call 33; (with_reducible refine (hL.out _ hdr.out).mono ?_); rintro e w' ⟨rfl, hb⟩; have kx := (hb.cell (p := ⟨x, 0, none⟩) hxl).trans hx; have kz := (hb.cell (p := ⟨z, 0, none⟩) hzl).trans hz; replace hb := Lib.hid hb))
    go_wp2_with fail
    go_ret
    have hkk := Kp.of_below (F := fun _ => False) hb.out
    exact ⟨_, rfl, rfl, ⟨vs, hdr.out.kept hkk (fun _ _ _ h => h)⟩, (Kp.refl P w).drew.then (Kp.of_below (F := P) hb.out) fun _ _ h => h⟩
  · rw [if_neg hfit, if_neg hfit]
    have hd : decide ((left : Int) < (s.size : Int)) = false := decide_eq_false (by omega)
    have hs2 := hl3.out
    replace h := Lib.hid h
    go_enter Try.func32, Try.ntmps32
    go_wp2_with fail
    go_region_held3 (fun w' => w'.cell? ⟨x, 0, none⟩ = some (.pointer (some ⟨b, 0, none⟩)) ∧ w'.cell? ⟨z, 0, none⟩ = some (.string s)) (first | exact ⟨hx, hz⟩ | exact hHeld | exact ⟨kx, kz⟩)
      (first | (go_at_call 33; (with_reducible refine (hL.out _ hdr.out).mono ?_); rintro e w' ⟨rfl, hb⟩; have kx := (hb.cell (p := ⟨x, 0, none⟩) hxl).trans hx; have kz := (hb.cell (p := ⟨z, 0, none⟩) hzl).trans hz; have ky := (hb.cell (p := ⟨y, 0, none⟩) hyl).trans hy; replace hb := Lib.hid hb))
    have hD1 : IsDv P w'.drew b m vs := (hdr.out.kept (Kp.of_below (F := fun _ => False) hb.out) (fun _ _ _ h => h)).drewN 1
    have hsz := hb.out.size
    have hY := lay_dv hD1 hk (fun j hj => hP.out j (by rw [World.size_drew] at hj hsz; omega)) s (by omega)
    have hown := h.out.own
    have hperm := h.out.rows.perm k hk
    replace hperm := Lib.hid hperm
    replace hD1 := Lib.hid hD1
    replace hY := Lib.hid hY
    replace hsz := Lib.hid hsz
    go_wp2_with fail
    go_region_held3 (fun w' => w'.cell? ⟨x, 0, none⟩ = some (.pointer (some ⟨b, 0, none⟩)) ∧ w'.cell? ⟨z, 0, none⟩ = some (.string s) ∧ w'.cell? ⟨y, 0, none⟩ = some (.int .i64 (k : Int))) (first | exact ⟨kx, kz, ky⟩ | exact hHeld | exact ⟨kx2, kz2, ky2⟩)
      (first | (go_at_call 34; (with_reducible refine hY.out.mono ?_); rintro e w2 ⟨rfl, hD2, hk2⟩; have kx2 := hk2.cell (p := ⟨x, 0, none⟩) kx (by rintro (e | e); exact hxf.1 e; exact hxf.2 e); have kz2 := hk2.cell (p := ⟨z, 0, none⟩) kz (by rintro (e | e); exact hzf.1 e; exact hzf.2 e); have ky2 := hk2.cell (p := ⟨y, 0, none⟩) ky (by rintro (e | e); exact hyf.1 e; exact hyf.2 e); replace hD2 := Lib.hid hD2; replace hk2 := Lib.hid hk2))
    clear kx2 kz2 ky2
    go_wp2_with fail
    go_ret
    refine ⟨_, rfl, rfl, hD2.out, ((Kp.refl P w).drew.trans (Kp.of_below (F := P) hb.out)).drew.trans (hk2.out.mono fun j _ e => ?_)⟩
    rcases e with e | e
    · subst e; exact hown
    · exact (hperm.out j e).1

set_option maxHeartbeats 2000000 in
set_option maxRecDepth 100000 in
theorem app_any (P : Nat → Prop) (b : Nat) (m : DM) (f : Int) (s : ByteArray) (w : World) (h : IsD P w b m) (ok : m.Ok) (hP : ∀ j, w.heap.size ≤ j → P j) :
    Calls Try.prog 11 #[.pointer (some ⟨b, 0, none⟩), .int .i64 f, .string s] w fun e w' => e = .returned (.int .i64 (m.app f (bl s)).1) ∧ IsD P w' b (m.app f (bl s)).2 ∧ Kp P w w' := by
  obtain ⟨vs, h⟩ := h
  have hb := obj_lt h.obj
  have hH := fun w => has_any f w
  have hkk := box3_k P w b (.int .i64 f) (.string s) 9
  have hD := h.kept (box3_k (fun _ => False) w b (.int .i64 f) (.string s) 9) (fun _ _ _ h => h)
  have c0 := box3_0 w b (.int .i64 f) (.string s) 9
  have c1 := box3_1 w b (.int .i64 f) (.string s) 9
  have c2 := box3_2 w b (.int .i64 f) (.string s) 9
  cases hf : isFile f with
  | false =>
    have e1 : m.app f (bl s) = (1, m) := by unfold DM.app; rw [hf]; rfl
    rw [e1]
    rw [hf] at hH
    replace hH := Lib.hid hH
    replace h := Lib.hid h
    replace hD := Lib.hid hD
    replace hkk := Lib.hid hkk
    clear e1 hf c0 c1 c2
    go_enter Try.func11, Try.ntmps11
    go_wp2_with (first | (go_at_call 30; refine (hH.out _).mono ?_; rintro e w' ⟨rfl, rfl⟩))
    go_ret
    exact ⟨rfl, ⟨_, hD.out⟩, hkk.out⟩
  | true =>
    obtain ⟨k, rfl, hk⟩ := isFile_nat hf
    rw [hf] at hH
    replace hH := Lib.hid hH
    have hdif : ∀ i, w.heap.size ≤ i → i ≠ b ∧ (vs k).ownBlock ≠ some i := fun i hi => ⟨by omega, fun e => by have := (h.rows.row k hk).lt i e; omega⟩
    have hDo := do_dv P b m vs 32 #[.pointer (some ⟨w.heap.size + 2, 0, none⟩), .pointer (some ⟨w.heap.size, 0, none⟩), .pointer (some ⟨w.heap.size + 1, 0, none⟩)] _ hD ok (enter30 _) (m.app (k : Int) (bl s))
      (fun hp => by unfold DM.app; rw [hf, hp]; rfl)
      (fun hp w1 hD1 hK1 => by
        have e1 : m.app (k : Int) (bl s) = ((if m.burnt.room - m.burnt.tot < s.size then 4 else 0), if m.burnt.room - m.burnt.tot < s.size then m.burnt else m.burnt.put (upd m.burnt.B k (m.burnt.B k ++ bl s)) m.burnt.S) := by
          unfold DM.app
          rw [hf, hp, m.burnt_B, m.burnt_S, m.burnt_tot, m.burnt_room, bl_length]
          simp only [if_true, Int.toNat_natCast]
          split <;> rfl
        rw [e1]
        refine (appC_any P w.heap.size (w.heap.size + 1) (w.heap.size + 2) b k s m.burnt vs w1 hD1 ok.burnt (fun j hj => hP j (by have := hK1.size; have := (box3_k P w b (.int .i64 (k : Int)) (.string s) 9).size; omega)) ?_ ?_ ?_ hk (hdif _ (by omega)) (hdif _ (by omega)) (hdif _ (by omega))).mono ?_
        · exact hK1.cell c2 (by show ¬ (w.heap.size + 2 = b); omega)
        · exact hK1.cell c0 (by show ¬ (w.heap.size = b); omega)
        · exact hK1.cell c1 (by show ¬ (w.heap.size + 1 = b); omega)
        · rintro e w' ⟨v, rfl, hv, hD2, hK2⟩
          exact ⟨v, rfl, hv, hD2, hK2⟩)
    replace h := Lib.hid h
    replace hD := Lib.hid hD
    replace hkk := Lib.hid hkk
    replace hDo := Lib.hid hDo
    clear hf c0 c1 c2
    go_enter Try.func11, Try.ntmps11
    go_wp2_with (first | (go_at_call 30; refine (hH.out _).mono ?_; rintro e w' ⟨rfl, rfl⟩) | (go_at_call 31; refine (hDo.out).mono ?_; rintro e w' ⟨rfl, hD2, hK2⟩))
    go_ret
    exact ⟨rfl, hD2, hkk.out.trans hK2⟩
end Go.Proofs.Ytidofjjghbhaaaa
