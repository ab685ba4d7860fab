/- The contract of frame's first. -/
import Derived.Test.YtidofjjghbhaaaaK3
import Derived.WalkSpells
import Derived.Lib.IndexBytes
namespace Go.Proofs.Ytidofjjghbhaaaa
open Go.RowKit
set_option linter.unusedVariables false

/-- what first tells of bytes: a record, or what they are -/
def FirstIs (l r : List UInt8) (c : Nat) : Prop := (stop l = none ∧ r = (l.drop 8).take (num l) ∧ c = 0) ∨ (stop l = some c ∧ r = [])
theorem sz (s : ByteArray) : s.size = (bl s).length := (bl_length s).symm
theorem ext_size (s : ByteArray) (a b : Nat) (h : b ≤ s.size) : (s.extract a b).size = b - a := by
  rw [sz]
  unfold bl
  rw [Lib.extract_data, List.length_take, List.length_drop]
  have := bl_length s
  unfold bl at this
  omega
theorem bl_mk (l : List UInt8) : bl ⟨l.toArray⟩ = l := by simp [bl]
theorem mk_bl (s : ByteArray) : (⟨(bl s).toArray⟩ : ByteArray) = s := by simp [bl]

set_option maxHeartbeats 4000000 in
set_option maxRecDepth 100000 in
theorem first_any (g : Nat) (t : ByteArray) (r : List UInt8) (c : Nat) (w : World) (hT : Tbl w g) (ht : 0 < t.size) (hs : t.size ≤ 4611686018427387904) (hF : FirstIs (bl t) r c) :
    Calls Try.prog 88 #[.pointer (some ⟨g, 0, none⟩), .string t] w fun e w' => e = .returned (.tuple #[.string ⟨r.toArray⟩, .int .i64 c]) ∧ ∃ n, w' = w.drewN n := by
  replace hT := Lib.hid hT
  have hn := num_lt (bl t)
  have hl := bl_length t
  unfold FirstIs stop at hF
  rw [hl] at hF
  rw [if_neg (by omega)] at hF
  by_cases h8 : t.size < 8
  · rw [if_pos h8] at hF
    have h8z : (t.size : Int) < 8 := by omega
    obtain ⟨h, _⟩ | ⟨h, rfl⟩ := hF
    · cases h
    · injection h with h
      subst h
      clear hl hn
      go_enter Try.func88, Try.ntmps88
      go_wp2_with fail
      go_ret2
      exact ⟨rfl, 0, rfl⟩
  · rw [if_neg h8] at hF
    have h8z : ¬ (t.size : Int) < 8 := by omega
    obtain ⟨body, q8⟩ : ∃ b, t.extract 8 t.size = b := ⟨_, rfl⟩
    obtain ⟨rest, q4⟩ : ∃ b, t.extract 4 t.size = b := ⟨_, rfl⟩
    have b8 : bl body = (bl t).drop 8 := by rw [← q8]; exact Lib.extract_to_end t 8
    have b4 : bl rest = (bl t).drop 4 := by rw [← q4]; exact Lib.extract_to_end t 4
    have s8 : body.size = t.size - 8 := by rw [← q8, ext_size _ _ _ (Nat.le_refl _)]
    have s4 : rest.size = t.size - 4 := by rw [← q4, ext_size _ _ _ (Nat.le_refl _)]
    have hw1 : at4 t 0 = num (bl t) := by unfold at4; rw [List.drop_zero]
    have hw2 : at4 rest 0 = num ((bl t).drop 4) := by unfold at4; rw [List.drop_zero, b4]
    have g4 : 4 ≤ t.size := by omega
    have g8 : 8 ≤ t.size := by omega
    have g4z : (4 : Int) ≤ (t.size : Int) := by omega
    have g8z : (8 : Int) ≤ (t.size : Int) := by omega
    have hc := num_lt ((bl t).drop 4)
    have cw := fun w => word_any t w (by omega) hs
    have cw2 := fun w => word_any rest w (by omega) (by omega)
    rw [hw1] at cw
    rw [hw2] at cw2
    generalize hN : num (bl t) = n at *
    generalize hC : num ((bl t).drop 4) = d at *
    replace s8 := Lib.hid s8
    replace s4 := Lib.hid s4
    replace b8 := Lib.hid b8
    replace b4 := Lib.hid b4
    replace hw1 := Lib.hid hw1
    replace hw2 := Lib.hid hw2
    replace hl := Lib.hid hl
    replace hF := Lib.hid hF
    replace hN := Lib.hid hN
    replace hC := Lib.hid hC
    replace cw := Lib.hid cw
    replace cw2 := Lib.hid cw2
    go_enter Try.func88, Try.ntmps88
    go_wp2_with fail
    go_quiet (first | (go_at_call 91; with_reducible refine Calls.quiet_of (cw.out _)) | (go_at_call 91; with_reducible refine Calls.quiet_of (cw2.out _)))
    (try simp only [Exit.then])
    by_cases hbig : 65536 < n
    · have hF := hF.out
      rw [if_pos hbig] at hF
      have hbz : (65536 : Int) < (n : Int) := by omega
      obtain ⟨h, _⟩ | ⟨h, rfl⟩ := hF
      · cases h
      · injection h with h
        subst h
        go_wp2_with fail
        go_ret2
        exact ⟨rfl, nq, rfl⟩
    · have hF := hF.out
      rw [if_neg hbig] at hF
      have hbz : ¬ (65536 : Int) < (n : Int) := by omega
      by_cases hsh : t.size < 8 + n
      · rw [if_pos hsh] at hF
        have hsz : (body.size : Int) < (n : Int) := by have := s8.out; omega
        obtain ⟨h, _⟩ | ⟨h, rfl⟩ := hF
        · cases h
        · injection h with h
          subst h
          go_wp2_with fail
          go_ret2
          exact ⟨rfl, nq, rfl⟩
      · rw [if_neg hsh] at hF
        have hsn : n ≤ body.size := by have := s8.out; omega
        have hsz : ¬ (body.size : Int) < (n : Int) := by omega
        have hsy : (n : Int) ≤ (body.size : Int) := by omega
        obtain ⟨rec, qr⟩ : ∃ b, body.extract 0 n = b := ⟨_, rfl⟩
        have br : bl rec = ((bl t).drop 8).take n := by rw [← qr, ← b8.out]; unfold bl; rw [Lib.extract_data, List.drop_zero, Nat.sub_zero]
        have sr : rec.size = n := by rw [← qr, ext_size _ _ _ hsn]; omega
        have hcr := crc_lt (bl rec)
        have co := fun w h => of_any g rec w h (by omega)
        rw [← br] at hF
        replace br := Lib.hid br
        generalize hK : crc (bl rec) = k at *
        replace hK := Lib.hid hK
        replace sr := Lib.hid sr
        replace hF := Lib.hid hF
        replace co := Lib.hid co
        by_cases hok : k = d
        · have hokz : ((k : Int) == (d : Int)) = true := by simp [hok]
          have hF := hF.out
          rw [if_pos hok] at hF
          obtain ⟨_, rfl, rfl⟩ | ⟨h, _⟩ := hF
          · replace hok := Lib.hid hok
            go_wp2_with (first | (go_at_call 92; with_reducible refine (co.out _ (Tbl.drewN hT.out _)).mono ?_; rintro e w' ⟨rfl, n', rfl⟩))
            go_ret2
            exact ⟨by rw [mk_bl]; rfl, nq + n', rfl⟩
          · cases h
        · have hokz : ((k : Int) == (d : Int)) = false := by simp; omega
          have hF := hF.out
          rw [if_neg hok] at hF
          replace hok := Lib.hid hok
          by_cases hend : t.size = 8 + n
          · rw [if_pos hend] at hF
            have hez : ((rec.size : Int) == (body.size : Int)) = true := by have := s8.out; have := sr.out; simp; omega
            replace hend := Lib.hid hend
            obtain ⟨h, _⟩ | ⟨h, rfl⟩ := hF
            · cases h
            · injection h with h
              subst h
              go_wp2_with (first | (go_at_call 92; with_reducible refine (co.out _ (Tbl.drewN hT.out _)).mono ?_; rintro e w' ⟨rfl, n', rfl⟩))
              go_ret2
              exact ⟨rfl, nq + n', rfl⟩
          · rw [if_neg hend] at hF
            have hez : ((rec.size : Int) == (body.size : Int)) = false := by have := s8.out; have := sr.out; simp; omega
            replace hend := Lib.hid hend
            obtain ⟨h, _⟩ | ⟨h, rfl⟩ := hF
            · cases h
            · injection h with h
              subst h
              go_wp2_with (first | (go_at_call 92; with_reducible refine (co.out _ (Tbl.drewN hT.out _)).mono ?_; rintro e w' ⟨rfl, n', rfl⟩))
              go_ret2
              exact ⟨rfl, nq + n', rfl⟩
end Go.Proofs.Ytidofjjghbhaaaa
