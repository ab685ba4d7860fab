/- The contracts of the reference's uses, numbers, lay, number, Ints. -/
import Derived.Test.YtgcliallkfnhaaaW1
import Derived.Test.YtgcliallkfnhaaaB0
namespace Go.Proofs.Ytgcliallkfnhaaa
open Go.RowKit
set_option linter.unusedVariables false

set_option maxHeartbeats 2000000 in
set_option maxRecDepth 100000 in
theorem usesR_any (k : Int) (w : World) :
    Calls Try.prog 21 #[.int .i64 k] w fun e w' => e = .returned (sv (usesL k)) ∧ w = w' := by
  by_cases e1 : k = 1
  · subst e1
    go_enter Try.func21, Try.ntmps21
    go_wp2_with fail
    go_ret
    exact ⟨rfl, rfl⟩
  have b1 : (k == 1) = false := by simpa using e1
  by_cases e2 : k = 2
  · subst e2
    go_enter Try.func21, Try.ntmps21
    go_wp2_with fail
    go_ret
    exact ⟨rfl, rfl⟩
  have b2 : (k == 2) = false := by simpa using e2
  by_cases e3 : k = 3
  · subst e3
    go_enter Try.func21, Try.ntmps21
    go_wp2_with fail
    go_ret
    exact ⟨rfl, rfl⟩
  have b3 : (k == 3) = false := by simpa using e3
  by_cases e4 : k = 4
  · subst e4
    go_enter Try.func21, Try.ntmps21
    go_wp2_with fail
    go_ret
    exact ⟨rfl, rfl⟩
  have b4 : (k == 4) = false := by simpa using e4
  by_cases e8 : k = 8
  · subst e8
    go_enter Try.func21, Try.ntmps21
    go_wp2_with fail
    go_ret
    exact ⟨rfl, rfl⟩
  have b8 : (k == 8) = false := by simpa using e8
  by_cases e5 : k = 5
  · subst e5
    go_enter Try.func21, Try.ntmps21
    go_wp2_with fail
    go_ret
    exact ⟨rfl, rfl⟩
  have b5 : (k == 5) = false := by simpa using e5
  by_cases e6 : k = 6
  · subst e6
    go_enter Try.func21, Try.ntmps21
    go_wp2_with fail
    go_ret
    exact ⟨rfl, rfl⟩
  have b6 : (k == 6) = false := by simpa using e6
  by_cases e7 : k = 7
  · subst e7
    go_enter Try.func21, Try.ntmps21
    go_wp2_with fail
    go_ret
    exact ⟨rfl, rfl⟩
  have b7 : (k == 7) = false := by simpa using e7
  by_cases e9 : k = 9
  · subst e9
    go_enter Try.func21, Try.ntmps21
    go_wp2_with fail
    go_ret
    exact ⟨rfl, rfl⟩
  have b9 : (k == 9) = false := by simpa using e9
  have hu : usesL k = [] := (uses_known k).2 (by unfold known; simp; omega)
  rw [hu]
  go_enter Try.func21, Try.ntmps21
  go_wp2_with fail
  go_ret
  exact ⟨rfl, rfl⟩

/-- a command's cells, and its numbers' -/
def Cmd.arr (c : Cmd) : Array Value := #[.int .i64 c.Kind, .int .i64 c.Member, .int .i64 c.Id, .int .i64 c.Other, .int .i64 c.Cur, .int .i64 c.Cur2, .int .i64 c.Amount, .int .i64 c.Amount2]
def Cmd.nums (c : Cmd) : Array Value := #[.int .i64 c.Member, .int .i64 c.Id, .int .i64 c.Other, .int .i64 c.Cur, .int .i64 c.Cur2, .int .i64 c.Amount, .int .i64 c.Amount2]
theorem Cmd.nums_get (c : Cmd) : ∀ i, i < 7 → c.nums[i]? = some (.int .i64 (c.num i))
  | 0, _ | 1, _ | 2, _ | 3, _ | 4, _ | 5, _ | 6, _ => rfl
  | n + 7, h => by omega
/-- the row of a command's numbers -/
def NumR (w : World) (g : Nat) (c : Cmd) : Prop := w.heap[g]? = some (.cells c.nums 2 (0, 0))
theorem NumR.cell {w : World} {g i : Nat} {c : Cmd} (h : NumR w g c) (hi : i < 7) : w.cell? ⟨g, i, none⟩ = some (.int .i64 (c.num i)) := by
  rw [cell_of_row w g i _ 2 (0, 0) h, c.nums_get i hi]
theorem NumR.lt {w : World} {g : Nat} {c : Cmd} (h : NumR w g c) : g < w.heap.size := (Array.getElem?_eq_some_iff.1 h).1
theorem NumR.kept {w w' : World} {g : Nat} {c : Cmd} (h : NumR w g c) (hb : Below w.heap.size w w') : NumR w' g c := (hb.block g h.lt).trans h

set_option maxHeartbeats 2000000 in
set_option maxRecDepth 100000 in
theorem numbersR_any (c : Cmd) (w : World) :
    Calls Try.prog 22 #[.agg c.arr] w fun e w' => ∃ g, e = .returned (.slice (some ⟨g, 0, none⟩) 7 7) ∧ NumR w' g c ∧ w.heap.size ≤ g ∧ Below w.heap.size w w' := by
  unfold Cmd.arr
  have hB : Below w.heap.size w ((w.alloc (.cells #[.int .i64 c.Kind, .int .i64 c.Member, .int .i64 c.Id, .int .i64 c.Other, .int .i64 c.Cur, .int .i64 c.Cur2, .int .i64 c.Amount, .int .i64 c.Amount2] 29)).alloc (.cells c.nums 2)) := ((Below.refl _ _).alloc (Nat.le_refl _) _).alloc (by simp) _
  have hN : NumR ((w.alloc (.cells #[.int .i64 c.Kind, .int .i64 c.Member, .int .i64 c.Id, .int .i64 c.Other, .int .i64 c.Cur, .int .i64 c.Cur2, .int .i64 c.Amount, .int .i64 c.Amount2] 29)).alloc (.cells c.nums 2)) (w.heap.size + 1) c := by
    have := heap_alloc_new (w.alloc (.cells #[.int .i64 c.Kind, .int .i64 c.Member, .int .i64 c.Id, .int .i64 c.Other, .int .i64 c.Cur, .int .i64 c.Cur2, .int .i64 c.Amount, .int .i64 c.Amount2] 29)) (.cells c.nums 2)
    unfold NumR
    simpa using this
  unfold Cmd.nums at hB hN
  replace hB := Lib.hid hB
  replace hN := Lib.hid hN
  go_enter Try.func22, Try.ntmps22
  go_wp2_with fail
  go_ret
  exact ⟨_, rfl, hN.out, by omega, hB.out⟩

theorem bes_front (k n : Nat) : bes (k + 1) n = UInt8.ofNat (n / 256 ^ k % 256) :: bes k n := rfl
set_option maxHeartbeats 2000000 in
set_option maxRecDepth 100000 in
theorem layR_any (n many : Nat) (w : World) (hn : n < 18446744073709551616) (hm : many ≤ 8) :
    Calls Try.prog 23 #[.int .u64 (n : Int), .int .i64 (many : Int)] w fun e w' => e = .returned (sv (bes many n)) ∧ Below w.heap.size w w' := by
  go_enter Try.func23, Try.ntmps23
  go_wp2_with fail
  go_loopw [0, 5, 6] (fun x s i wr => ∃ k : Nat, k ≤ many ∧ i = .int .i64 k ∧ x = .int .u64 ((n / 256 ^ k : Nat) : Int) ∧ s = sv (bes k n) ∧ Hid (Below w.heap.size w wr)) (fun _ _ i _ => many - (intOf i).toNat)
  case atStart => exact ⟨0, by omega, rfl, by simp, rfl, Lib.hid (Below.refl _ _)⟩
  case round =>
    obtain ⟨k, hk, rfl, rfl, rfl, hB⟩ := hrel
    unfold sv
    by_cases h8 : k < many
    · have kz : (k : Int) < (many : Int) := by omega
      have hxn : n / 256 ^ k ≤ n := Nat.div_le_self _ _
      have hnx : n / 256 ^ (k + 1) = n / 256 ^ k / 256 := by rw [Nat.pow_succ, Nat.div_div_eq_div_mul]
      have hlo := bes_front k n
      have hlen := bes_length k n
      generalize n / 256 ^ k = x at *
      have hu8 : ((UInt8.ofNat (x % 256)).toNat : Int) = (x : Int) % 256 := by simp
      have hconv := bytes_text (wr.alloc (.cells #[.int .u8 ((x : Int) % 256)] 5)) wr.heap.size 1 1 [UInt8.ofNat (x % 256)] (by
        unfold BRow Lib.byteCells
        simp only [List.map_cons, List.map_nil, hu8]
        exact heap_alloc_new wr _) rfl
      have hadd : ∀ w, (Op.stringOp .add (⟨[UInt8.ofNat (x % 256)].toArray⟩ : ByteArray) (⟨(bes k n).toArray⟩ : ByteArray)).run Try.prog w = .ok (.string ⟨(bes (k + 1) n).toArray⟩) w := fun w => by
        rw [run_string_add_sum w _ _ (by rw [mk_size, mk_size]; simp; omega), mk_append, hlo]
        rfl
      generalize (⟨[UInt8.ofNat (x % 256)].toArray⟩ : ByteArray) = S1 at *
      generalize (⟨(bes k n).toArray⟩ : ByteArray) = S2 at *
      replace hlo := Lib.hid hlo
      replace hnx := Lib.hid hnx
      replace hu8 := Lib.hid hu8
      replace hlen := Lib.hid hlen
      have hB1 : Hid (Below w.heap.size w (wr.alloc (.cells #[.int .u8 ((x : Int) % 256)] 5))) := Lib.hid (hB.out.alloc hB.out.size _)
      go_wp2_with fail
      go_roundw
      case rel => exact ⟨k + 1, by omega, by go_num, by rw [hnx.out]; go_num, rfl, hB1⟩
      case measure => simp [intOf]; omega
    · obtain rfl : k = many := by omega
      have kz : ¬ (k : Int) < (k : Int) := by omega
      go_wp2_with fail
      go_ret
      exact ⟨rfl, hB.out⟩

theorem vls_take_succ (l : List UInt8) (i : Nat) (h : i < l.length) : vls (l.take (i + 1)) = vls (l.take i) * 256 + (l[i]).toNat := by
  rw [List.take_succ_eq_append_getElem h, vls_snoc]
set_option maxHeartbeats 2000000 in
set_option maxRecDepth 100000 in
theorem numR_any (s : ByteArray) (pos many : Nat) (w : World) (hm : many ≤ 8) (hp : pos + many ≤ s.size) (hs : s.size ≤ 1000000) :
    Calls Try.prog 28 #[.string s, .int .i64 (pos : Int), .int .i64 (many : Int)] w fun e w' => e = .returned (.int .u64 ((vls (((bl s).drop pos).take many) : Nat) : Int)) ∧ w = w' := by
  have hll : ((bl s).drop pos).length = s.size - pos := by rw [List.length_drop, bl_length]
  have hz := IntWalk.i64_in ((pos : Int) + (many : Int)) (by omega)
  go_enter Try.func28, Try.ntmps28
  go_wp2_with fail
  go_loop [7, 8] (fun n i => ∃ k : Nat, k ≤ many ∧ i = .int .i64 ((pos + k : Nat) : Int) ∧ n = .int .u64 ((vls (((bl s).drop pos).take k) : Nat) : Int)) (fun _ i => pos + many - (intOf i).toNat)
  case atStart => exact ⟨0, by omega, by simp, rfl⟩
  case round =>
    obtain ⟨k, hk, rfl, rfl⟩ := hrel
    by_cases hkm : k < many
    · have kz : ((pos + k : Nat) : Int) < (pos : Int) + (many : Int) := by omega
      have hks : pos + k < s.size := by omega
      have hsu := vls_take_succ ((bl s).drop pos) k (by rw [hll]; omega)
      have hb : ((bl s).drop pos)[k]'(by rw [hll]; omega) = s[pos + k] := by rw [List.getElem_drop]; rfl
      rw [hb] at hsu
      have hlt := vls_lt (((bl s).drop pos).take k)
      rw [List.length_take, hll, Nat.min_eq_left (by omega)] at hlt
      have h7 : (256 : Nat) ^ k ≤ 256 ^ 7 := Nat.pow_le_pow_right (by omega) (by omega)
      have h77 : (256 : Nat) ^ 7 = 72057594037927936 := by decide
      have hb2 := s[pos + k].toNat_lt
      generalize vls (((bl s).drop pos).take k) = n at *
      generalize 256 ^ k = q at *
      replace hsu := Lib.hid hsu
      replace hb := Lib.hid hb
      have hn : n < 72057594037927936 := by omega
      go_wp2_with fail
      go_round
      case rel => exact ⟨k + 1, by omega, by go_num, by rw [hsu.out]; go_num⟩
      case measure => simp [intOf]; omega
    · obtain rfl : k = many := by omega
      have kz : ¬ ((pos + k : Nat) : Int) < (pos : Int) + (k : Int) := by omega
      go_wp2_with fail
      go_ret
      exact ⟨rfl, rfl⟩
end Go.Proofs.Ytgcliallkfnhaaa
