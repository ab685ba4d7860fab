/- The contract of the reference's All, of those that are matched. -/
import Derived.Test.YtflbggehgjllcaaDoorRG
namespace Go.Proofs.YtflbggehgjllcaaDoor
open Go.RowKit
set_option linter.unusedVariables false
section
variable {P : Nat → Prop} {w : World} {rb : Nat} {b : Bk} {v : Value}
def idsO (l : List En) (t : Nat) : List Int := (ordN l t).map (·.d.id)
theorem idsO_succ (l : List En) (t : Nat) : idsO l (t + 1) = idsO l t ++ selS l (isN t) l.length := by
  rw [selS_all]; unfold idsO; rw [← List.map_append]; rfl
theorem idsO_le {b : Bk} (h : b.Ok) (t : Nat) : (idsO b.l t).length ≤ b.l.length := by
  unfold idsO; rw [List.length_map, (ordN_perm b.l t).length_eq]; exact List.length_filter_le _ _
set_option maxHeartbeats 4000000 in
set_option maxRecDepth 100000 in
theorem rall_b (h : RB P w rb b) (ho : b.Ok) :
    Calls Tryd.prog 15 #[.pointer (some ⟨rb, 0, none⟩), .int .i64 2] w fun e w' => ∃ u, e = .returned u ∧ ZR w w' u (b.all 2) := by
  obtain ⟨v, h⟩ := h
  have hlen := ho.len
  have hmany := ho.many.2
  have h0 := ZR.nil w
  obtain ⟨p, cap, rfl, -, -, -⟩ := orow_shape h.row
  have hgp : ∀ k, k < b.l.length → ∃ g, p = some ⟨g, 0, none⟩ := fun k hk => by
    obtain ⟨g, c1, cur, e1, _⟩ := orow_some h.row (by omega)
    injection e1 with e1 _ _
    exact ⟨g, e1⟩
  obtain ⟨M, hM⟩ : ∃ M, M = b.many := ⟨_, rfl⟩
  have hres : b.all 2 = idsO b.l M := by unfold Bk.all idsO; dsimp only; rw [if_pos rfl, hM, ordN_all ho]
  obtain ⟨R, hR⟩ : ∃ R, R = b.all 2 := ⟨_, rfl⟩
  rw [← hR] at hres ⊢
  obtain ⟨n, hn⟩ : ∃ n, n = b.l.length := ⟨_, rfl⟩
  have hn1 : n ≤ 1000 := by omega
  have hM1 : M ≤ 200 := by omega
  rw [← hn] at hgp
  replace h := Lib.hid h
  replace ho := Lib.hid ho
  replace h0 := Lib.hid h0
  replace hn := Lib.hid hn
  replace hM := Lib.hid hM
  replace hgp := Lib.hid hgp
  replace hres := Lib.hid hres
  replace hR := Lib.hid hR
  replace hlen := Lib.hid hlen
  replace hmany := Lib.hid hmany
  go_enter Tryd.func15, Tryd.ntmps15
  go_wp2_with fail
  go_loopw [5, 6] (fun u i wr => ∃ t : Nat, t ≤ M ∧ i = .int .i64 ((t : Int) + 1) ∧ Hid (ZR w wr u (idsO b.l t))) (fun _ i _ => M + 1 - (intOf i).toNat)
  case atStart => exact ⟨0, by omega, rfl, h0⟩
  case round =>
    obtain ⟨t, ht, rfl, hS⟩ := hrel
    have hpb := h.out.below hS.out.bl
    have c3 : wr.cell? ⟨rb, 3, none⟩ = some (.int .i64 (M : Nat)) := by rw [hM.out]; exact obj_cell hpb.obj rfl
    replace hpb := Lib.hid hpb
    by_cases htM : t < M
    · have htz : (t : Int) + 1 ≤ (M : Int) := by omega
      have hle0 : (idsO b.l t).length ≤ 200 := by have := idsO_le ho.out t; have := hlen.out; omega
      replace hle0 := Lib.hid hle0
      go_wp2_with fail
      go_loopw [5, 7] (fun u i wr2 => ∃ k : Nat, k ≤ n ∧ i = .int .i64 (k : Int) ∧ Hid (ZR w wr2 u (idsO b.l t ++ selS b.l (isN t) k))) (fun _ i _ => n - (intOf i).toNat)
      case atStart => exact ⟨0, by omega, rfl, Lib.hid (by have h1 := hS.out; unfold selS; simpa using h1)⟩
      case round =>
        obtain ⟨k, hk, rfl, hT⟩ := hrel
        have hpb2 := h.out.below hT.out.bl
        have c2 : wr.cell? ⟨rb, 2, none⟩ = some (.slice p n cap) := by rw [hn.out]; exact obj_cell hpb2.obj rfl
        by_cases hkn : k < n
        · have hkz : (k : Int) < (n : Int) := by omega
          obtain ⟨g, rfl⟩ := hgp.out k hkn
          have hkb : k < b.l.length := by have := hn.out; omega
          obtain ⟨e0, -, -, -, -, -, -, e7, -, -, e10⟩ := hpb2.entry (i := k) hkb rfl
          have hle : Hid ((idsO b.l t ++ selS b.l (isN t) k).length ≤ 2000) := Lib.hid (by have h1 := selS_le b.l (isN t) k; have h2 := hle0.out; have h3 := hlen.out; rw [List.length_append]; omega)
          have hIs : isN t b.l[k] = (decide ((b.l[k]).nth = (t : Int) + 1) && decide ((b.l[k]).st = 2)) := rfl
          have hyes : isN t b.l[k] = true → selS b.l (isN t) (k + 1) = selS b.l (isN t) k ++ [b.l[k].d.id] := selS_yes hkb
          have hno : isN t b.l[k] = false → selS b.l (isN t) (k + 1) = selS b.l (isN t) k := selS_no hkb
          have hap := hT.out.app (.cells #[.int .i64 (b.l[k]).d.id] 3) (b.l[k]).d.id
          replace hpb2 := Lib.hid hpb2
          generalize isN t b.l[k] = bi at hIs hyes hno
          generalize b.l[k] = x at e0 e7 e10 hIs hyes hap
          by_cases h1 : x.nth = (t : Int) + 1
          · have q1 : (x.nth == (t : Int) + 1) = true := by simpa using h1
            by_cases h2 : x.st = 2
            · have q2 : (x.st == 2) = true := by simpa using h2
              have hb1 : bi = true := by rw [hIs, decide_eq_true h1, decide_eq_true h2]; rfl
              have hy := hyes hb1
              have hone := one_cell (heap_alloc_new wr (.cells #[.int .i64 x.d.id] 3))
              have hy2 : (idsO b.l t ++ selS b.l (isN t) k) ++ [x.d.id] = idsO b.l t ++ selS b.l (isN t) (k + 1) := by rw [hy, List.append_assoc]
              rw [hy2] at hap
              generalize idsO b.l t ++ selS b.l (isN t) k = zs at hap hle
              clear hy2
              replace hap := Lib.hid hap
              replace hone := Lib.hid hone
              replace h1 := Lib.hid h1
              replace h2 := Lib.hid h2
              clear hy hyes hno hb1 hIs
              go_wp2_with (at_builtin; refine wpList_app1 38 3 1 8 _ Tryd.underlying38 info3 (by rfl) (by omega) (by omega) rfl _ _ rfl rfl _ _ _ rfl hap.out.1 ⟨wr.heap.size, 0, none⟩ [.int .i64 x.d.id] rfl rfl hone.out (fun u hu => by obtain rfl := List.mem_singleton.1 hu; rfl) (by have := hle.out; omega) ?_)
              intro v' w' hr' hg' hv'
              go_wp2_with fail
              go_roundw
              case rel => exact ⟨k + 1, by omega, by go_num, Lib.hid (hap.out.2 _ _ hr' hg' hv')⟩
              case measure => simp [intOf]; omega
            · have q2 : (x.st == 2) = false := by simpa using h2
              have hb1 : bi = false := by rw [hIs, decide_eq_false h2]; simp
              have hz := hT.out
              rw [← hno hb1] at hz
              replace hz := Lib.hid hz
              replace h1 := Lib.hid h1
              replace h2 := Lib.hid h2
              clear hyes hno hb1 hIs hap
              go_wp2_with fail
              go_roundw
              case rel => exact ⟨k + 1, by omega, by go_num, hz⟩
              case measure => simp [intOf]; omega
          · have q1 : (x.nth == (t : Int) + 1) = false := by simpa using h1
            have hb1 : bi = false := by rw [hIs, decide_eq_false h1]; rfl
            have hz := hT.out
            rw [← hno hb1] at hz
            replace hz := Lib.hid hz
            replace h1 := Lib.hid h1
            clear hyes hno hb1 hIs hap
            go_wp2_with fail
            go_roundw
            case rel => exact ⟨k + 1, by omega, by go_num, hz⟩
            case measure => simp [intOf]; omega
        · obtain rfl : k = n := by omega
          have hkz : ¬ (k : Int) < (k : Int) := by omega
          have hz := hT.out
          rw [hn.out, ← idsO_succ] at hz
          replace hz := Lib.hid hz
          replace hpb2 := Lib.hid hpb2
          go_wp2_with fail
          go_roundw
          case rel => exact ⟨t + 1, by omega, by go_num, hz⟩
          case measure => simp [intOf]; omega
    · obtain rfl : t = M := by omega
      have htz : ¬ (t : Int) + 1 ≤ (t : Int) := by omega
      go_wp2_with fail
      go_ret
      exact ⟨_, rfl, by rw [hres.out]; exact hS.out⟩
theorem rall_any (h : RB P w rb b) (ho : b.Ok) (st : Int) : Calls Tryd.prog 15 #[.pointer (some ⟨rb, 0, none⟩), .int .i64 st] w fun e w' => ∃ u, e = .returned u ∧ ZR w w' u (b.all st) := by
  by_cases e : st = 2
  · subst e; exact rall_b h ho
  · exact rall_a h st e (by have := ho.len; omega)
end
end Go.Proofs.YtflbggehgjllcaaDoor
