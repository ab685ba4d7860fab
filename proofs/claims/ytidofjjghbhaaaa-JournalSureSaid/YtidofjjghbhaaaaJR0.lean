/- The contracts of the reference's Eight, Number, cut, may. -/
import Derived.Test.YtidofjjghbhaaaaJ0
import Derived.Test.YtidofjjghbhaaaaM1
import Derived.Test.YtidofjjghbhaaaaH4
namespace Go.Proofs.Ytidofjjghbhaaaa
open Go.RowKit
set_option linter.unusedVariables false

/-- the last i bytes of a number, the highest first -/
def low : Nat → Nat → List UInt8
  | 0, _ => []
  | i + 1, n => low i (n / 256) ++ [UInt8.ofNat n]
theorem low_eight (n : Nat) : low 8 n = eight n := by
  simp [low, eight, Nat.div_div_eq_div_mul]
/-- what Eight holds behind i rounds -/
theorem low_front : ∀ (i n : Nat), low (i + 1) n = UInt8.ofNat (n / 256 ^ i) :: low i n
  | 0, n => by simp [low]
  | i + 1, n => by
    rw [low, low_front i (n / 256), low]
    simp only [List.cons_append]
    rw [Nat.div_div_eq_div_mul, Nat.pow_succ, Nat.mul_comm 256]

set_option maxHeartbeats 2000000 in
set_option maxRecDepth 100000 in
theorem eightR_any (n : Nat) (w : World) (hn : n < 9223372036854775808) :
    Calls Try.prog 60 #[.int .i64 (n : Int)] w fun e w' => e = .returned (.string ⟨(eight n).toArray⟩) ∧ Below w.heap.size w w' := by
  go_enter Try.func60, Try.ntmps60
  go_wp2_with fail
  go_loopw [0, 3, 4] (fun x s i wr => ∃ k : Nat, k ≤ 8 ∧ i = .int .i64 k ∧ x = .int .i64 ((n / 256 ^ k : Nat) : Int) ∧ s = .string ⟨(low k n).toArray⟩ ∧ Hid (Below w.heap.size w wr)) (fun _ _ i _ => 8 - (intOf i).toNat)
  case atStart => exact ⟨0, by omega, rfl, by simp, rfl, Lib.hid (Below.refl _ _)⟩
  case round =>
    obtain ⟨k, hk, rfl, rfl, rfl, hB⟩ := hrel
    by_cases h8 : k < 8
    · have kz : (k : Int) < 8 := by omega
      have hxn : n / 256 ^ k ≤ n := Nat.div_le_self _ _
      have hnx : n / 256 ^ (k + 1) = n / 256 ^ k / 256 := by rw [Nat.pow_succ, Nat.div_div_eq_div_mul]
      have hlo := low_front k n
      have hlen : (low k n).length = k := by
        have : ∀ i n, (low i n).length = i := fun i => by
          induction i with
          | zero => intro n; rfl
          | succ i ih => intro n; rw [low, List.length_append, ih]; rfl
        exact this k n
      generalize n / 256 ^ k = x at *
      have hu8 : ((UInt8.ofNat x).toNat : Int) = (x : Int) % 256 := by simp
      have hconv := bytes_text (wr.alloc (.cells #[.int .u8 ((x : Int) % 256)] 5)) wr.heap.size 1 1 [UInt8.ofNat x] (by
        unfold BRow Lib.byteCells
        simp only [List.map_cons, List.map_nil, hu8]
        exact heap_alloc_new wr _) rfl
      have hadd : ∀ w, (Op.stringOp .add (⟨[UInt8.ofNat x].toArray⟩ : ByteArray) (⟨(low k n).toArray⟩ : ByteArray)).run Try.prog w = .ok (.string ⟨(low (k + 1) n).toArray⟩) w := fun w => by
        rw [run_string_add_sum w _ _ (by rw [mk_size, mk_size]; simp; omega), mk_append, hlo]
        rfl
      generalize (⟨[UInt8.ofNat x].toArray⟩ : ByteArray) = S1 at *
      generalize (⟨(low k n).toArray⟩ : ByteArray) = S2 at *
      replace hlo := Lib.hid hlo
      replace hnx := Lib.hid hnx
      replace hu8 := Lib.hid hu8
      replace hlen := Lib.hid hlen
      have hB1 : Hid (Below w.heap.size w (wr.alloc (.cells #[.int .u8 ((x : Int) % 256)] 5))) := Lib.hid (hB.out.alloc hB.out.size _)
      go_wp2_with fail
      go_roundw
      case rel => exact ⟨k + 1, by omega, by go_num, by rw [hnx.out]; go_num, rfl, hB1⟩
      case measure => simp [intOf]; omega
    · obtain rfl : k = 8 := by omega
      rw [low_eight]
      go_wp2_with fail
      go_ret
      exact ⟨rfl, hB.out⟩

/-- what the first i bytes of eight tell, as long as that may be -/
theorem valOf_snoc (l : List UInt8) (b : UInt8) : valOf (l ++ [b]) = valOf l * 256 + b.toNat := by simp [valOf]
theorem valTake_succ (l : List UInt8) (i : Nat) (h : i < l.length) : valOf (l.take (i + 1)) = valOf (l.take i) * 256 + (l[i]).toNat := by
  rw [List.take_succ_eq_append_getElem h, valOf_snoc]
theorem valTake_lt (l : List UInt8) : ∀ i, valOf (l.take i) < 256 ^ i
  | 0 => by simp [valOf]
  | i + 1 => by
    have ih := valTake_lt l i
    by_cases h : i < l.length
    · rw [valTake_succ l i h, Nat.pow_succ]
      have := (l[i]).toNat_lt
      omega
    · rw [List.take_of_length_le (by omega)]
      rw [List.take_of_length_le (by omega)] at ih
      rw [Nat.pow_succ]
      omega
/-- the number of eight bytes, or -1 -/
def numI (l : List UInt8) : Int := match num8 l with | some n => (n : Int) | none => -1
theorem numI_none {l : List UInt8} (h : num8 l = none) : numI l = -1 := by unfold numI; rw [h]
theorem numI_some {l : List UInt8} {n : Nat} (h : num8 l = some n) : numI l = (n : Int) := by unfold numI; rw [h]

set_option maxHeartbeats 2000000 in
set_option maxRecDepth 100000 in
theorem numberR_any (s : ByteArray) (w : World) :
    Calls Try.prog 48 #[.string s] w fun e w' => e = .returned (.int .i64 (numI (bl s))) ∧ w = w' := by
  by_cases h8 : s.size < 8
  · have e : numI (bl s) = -1 := numI_none (by unfold num8; rw [if_pos (by rw [bl_length]; exact h8)])
    rw [e]
    go_enter Try.func48, Try.ntmps48
    go_wp2_with fail
    go_ret
    exact ⟨rfl, rfl⟩
  · have hlen : ¬ (bl s).length < 8 := by rw [bl_length]; exact h8
    go_enter Try.func48, Try.ntmps48
    go_wp2_with fail
    go_loop [3, 4] (fun n i => ∃ k : Nat, k ≤ 8 ∧ i = .int .i64 k ∧ n = .int .i64 (valOf ((bl s).take k) : Nat) ∧ valOf ((bl s).take k) < 4611686018427387904) (fun _ i => 8 - (intOf i).toNat)
    case atStart => exact ⟨0, by omega, rfl, rfl, by simp [valOf]⟩
    case round =>
      obtain ⟨k, hk, rfl, rfl, hv⟩ := hrel
      by_cases hk8 : k < 8
      · have kz : (k : Int) < 8 := by omega
        have hks : k < s.size := by omega
        have hsu := valTake_succ (bl s) k (by rw [bl_length]; exact hks)
        have hb : (bl s)[k]'(by rw [bl_length]; exact hks) = s[k] := rfl
        rw [hb] at hsu
        have hlt := valTake_lt (bl s) k
        have hb2 := s[k].toNat_lt
        by_cases hbig : 18014398509481984 ≤ valOf ((bl s).take k)
        · have hk7 : k = 7 := by
            by_cases h6 : k ≤ 6
            · have : (256 : Nat) ^ k ≤ 256 ^ 6 := Nat.pow_le_pow_right (by omega) h6
              omega
            · omega
          have e : numI (bl s) = -1 := numI_none (by
            unfold num8
            rw [if_neg hlen, if_neg]
            subst hk7
            rw [hsu]; omega)
          replace e := Lib.hid e
          generalize valOf ((bl s).take k) = n at *
          have hbz : (18014398509481984 : Int) ≤ (n : Int) := by omega
          replace hsu := Lib.hid hsu
          replace hlt := Lib.hid hlt
          go_wp2_with fail
          go_ret
          exact ⟨by rw [e.out]; rfl, rfl⟩
        · generalize valOf ((bl s).take k) = n at *
          have hbz : ¬ (18014398509481984 : Int) ≤ (n : Int) := by omega
          replace hsu := Lib.hid hsu
          replace hlt := Lib.hid hlt
          go_wp2_with fail
          go_round
          case rel => exact ⟨k + 1, by omega, by go_num, by rw [hsu.out]; go_num, by rw [hsu.out]; omega⟩
          case measure => simp [intOf]; omega
      · obtain rfl : k = 8 := by omega
        have e : numI (bl s) = (valOf ((bl s).take 8) : Nat) := numI_some (by unfold num8; rw [if_neg hlen, if_pos hv])
        generalize valOf ((bl s).take 8) = n at *
        replace e := Lib.hid e
        go_wp2_with fail
        go_ret
        exact ⟨by rw [e.out]; rfl, rfl⟩

set_option maxHeartbeats 2000000 in
set_option maxRecDepth 100000 in
theorem cutRJ_any (b : Nat) (m : DM) (f n : Nat) (w : World) (h : IsR w b m) (ok : m.Ok) (hf : f < 4) :
    Calls Try.prog 49 #[.pointer (some ⟨b, 0, none⟩), .int .i64 (f : Int), .int .i64 (n : Int)] w fun e w' => e = .returned (.int .i64 (cutJ m f n).1) ∧ IsR w' b (cutJ m f n).2 ∧ Kp (· = b) w w' := by
  have c := h.text hf
  have hsz : (⟨(m.B f).toArray⟩ : ByteArray).size = (m.B f).length := by rw [sz, bl_mk]
  have hfz : (f : Int) < 4 := by omega
  unfold sv at c
  by_cases he : (m.B f).length = n
  · have e : cutJ m f n = (0, m) := if_pos he
    rw [e]
    rw [← hsz] at he
    generalize (⟨(m.B f).toArray⟩ : ByteArray) = t at *
    have hez : ((t.size : Int) == (n : Int)) = true := by simp; omega
    replace h := Lib.hid h
    replace hsz := Lib.hid hsz
    replace he := Lib.hid he
    clear e
    go_enter Try.func49, Try.ntmps49
    go_wp2_with fail
    go_ret
    exact ⟨rfl, h.out, Kp.refl _ _⟩
  · have e : cutJ m f n = m.cut (f : Int) (n : Int) := if_neg he
    rw [e]
    rw [← hsz] at he
    have hC := cutR_any b m (f : Int) (n : Int) w h ok
    generalize (⟨(m.B f).toArray⟩ : ByteArray) = t at *
    have hez : ((t.size : Int) == (n : Int)) = false := by simp; omega
    replace h := Lib.hid h
    replace hsz := Lib.hid hsz
    replace he := Lib.hid he
    replace hC := Lib.hid hC
    clear e
    generalize hr : m.cut (f : Int) (n : Int) = r at *
    replace hr := Lib.hid hr
    go_enter Try.func49, Try.ntmps49
    go_wp2_with (first | (go_at_call 70; refine hC.out.mono ?_; rintro e w' ⟨rfl, hR, hK⟩))
    go_ret
    exact ⟨rfl, hR, hK⟩

/-- the reference's journal, in memory -/
structure RJ (P : Nat → Prop) (w : World) (jb db : Nat) (m : DM) (j : JM) : Prop where
  disk : IsR w db m
  jobj : ∃ p cap, w.heap[jb]? = some (.cells #[.pointer (some ⟨db, 0, none⟩), sv j.text, .int .i64 (j.base : Nat), .slice p j.recs.length cap, .bool j.broken] 86 (0, 0)) ∧ SRow w p j.recs.length j.recs ∧
    (∀ a, p = some a → P a.block ∧ a.block ≠ jb ∧ a.block ≠ db ∧ a.block < w.heap.size)
  ne : jb ≠ db
  pj : P jb
  pd : P db

/-- may something be kept? -/
def JM.may (j : JM) (b : List UInt8) : Int := if 65528 < b.length then 4 else if j.broken then 9 else 0
set_option maxHeartbeats 2000000 in
set_option maxRecDepth 100000 in
theorem mayR_any (P : Nat → Prop) (jb db : Nat) (m : DM) (j : JM) (s : ByteArray) (w : World) (h : RJ P w jb db m j) :
    Calls Try.prog 58 #[.pointer (some ⟨jb, 0, none⟩), .string s] w fun e w' => e = .returned (.int .i64 (j.may (bl s))) ∧ w = w' := by
  obtain ⟨p, cap, hj, _, _⟩ := h.jobj
  have c4 : w.cell? ⟨jb, 4, none⟩ = some (.bool j.broken) := obj_cell hj rfl
  unfold JM.may
  rw [bl_length]
  by_cases hs : 65528 < s.size
  · rw [if_pos hs]
    have hz : (65528 : Int) < (s.size : Int) := by omega
    replace h := Lib.hid h
    replace hj := Lib.hid hj
    go_enter Try.func58, Try.ntmps58
    go_wp2_with fail
    go_ret
    exact ⟨rfl, rfl⟩
  · rw [if_neg hs]
    have hz : ¬ (65528 : Int) < (s.size : Int) := by omega
    replace h := Lib.hid h
    replace hj := Lib.hid hj
    cases hb : j.broken with
    | true =>
      rw [hb] at c4
      clear hb
      simp only [if_true]
      go_enter Try.func58, Try.ntmps58
      go_wp2_with fail
      go_ret
      exact ⟨rfl, rfl⟩
    | false =>
      rw [hb] at c4
      clear hb
      simp only [Bool.false_eq_true, if_false]
      go_enter Try.func58, Try.ntmps58
      go_wp2_with fail
      go_ret
      exact ⟨rfl, rfl⟩
end Go.Proofs.Ytidofjjghbhaaaa
