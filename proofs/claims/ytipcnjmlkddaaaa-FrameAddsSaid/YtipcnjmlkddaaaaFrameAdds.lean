/- Checks of three texts of one length, turned by one another: the law's walk. -/
import Derived.Test.YtipcnjmlkddaaaaB0
import Derived.StillTailTactics
import Derived.Deep.RegionHeld3
import Derived.BigRegion
namespace Go.Proofs.Ytipcnjmlkddaaaa
open Go.RowKit
set_option linter.unusedVariables false

/-- the first n bytes of three texts, turned by one another, k of them laid -/
def mixed (a b c : List UInt8) (n k : Nat) : List UInt8 := (xor3 (a.take n) (b.take n) (c.take n)).take k ++ List.replicate (n - k) 0
theorem xor3_length : ∀ (a b c : List UInt8) (n : Nat), a.length = n → b.length = n → c.length = n → (xor3 a b c).length = n
  | [], [], [], n, h, _, _ => h
  | x :: a, y :: b, z :: c, n, h1, h2, h3 => by
    obtain ⟨m, rfl⟩ : ∃ m, n = m + 1 := ⟨n - 1, by simp at h1; omega⟩
    simp only [xor3, List.length_cons]
    rw [xor3_length a b c m (by simpa using h1) (by simpa using h2) (by simpa using h3)]
theorem xor3_get : ∀ (a b c : List UInt8) (i : Nat) (x y z : UInt8), a[i]? = some x → b[i]? = some y → c[i]? = some z → (xor3 a b c)[i]? = some (x ^^^ y ^^^ z)
  | p :: a, q :: b, r :: c, 0, x, y, z, h1, h2, h3 => by simp at h1 h2 h3; simp [xor3, h1, h2, h3]
  | p :: a, q :: b, r :: c, i + 1, x, y, z, h1, h2, h3 => by simp at h1 h2 h3; simp [xor3]; exact xor3_get a b c i x y z h1 h2 h3
theorem mixed_set (a b c : List UInt8) (n k : Nat) (x y z : UInt8) (ha : n ≤ a.length) (hb : n ≤ b.length) (hc : n ≤ c.length) (hk : k < n) (h1 : a[k]? = some x) (h2 : b[k]? = some y) (h3 : c[k]? = some z) :
    (mixed a b c n k).set k (x ^^^ y ^^^ z) = mixed a b c n (k + 1) := by
  have hl := xor3_length (a.take n) (b.take n) (c.take n) n (by simp; omega) (by simp; omega) (by simp; omega)
  have hg := xor3_get (a.take n) (b.take n) (c.take n) k x y z (by rw [List.getElem?_take, if_pos hk]; exact h1) (by rw [List.getElem?_take, if_pos hk]; exact h2) (by rw [List.getElem?_take, if_pos hk]; exact h3)
  unfold mixed
  generalize xor3 (a.take n) (b.take n) (c.take n) = m at *
  obtain ⟨d, hd⟩ : ∃ d, n - k = d + 1 := ⟨n - k - 1, by omega⟩
  rw [hd, show n - (k + 1) = d by omega, List.replicate_succ, List.set_append, if_neg (by simp; omega)]
  rw [show k - (m.take k).length = 0 by simp; omega, List.set_cons_zero]
  have hkm : k < m.length := by omega
  rw [List.getElem?_eq_getElem hkm] at hg
  injection hg with hg
  rw [List.take_succ_eq_append_getElem hkm, hg, List.append_assoc]
  rfl

theorem min4 (x y z u : Nat) (w : World) : (Builtin.min_ #[3, 3, 3, 3] 3 #[.int .i64 (x : Int), .int .i64 (y : Int), .int .i64 (z : Int), .int .i64 (u : Int)]).run Try.prog w = .ok (.int .i64 ((min (min (min x y) z) u : Nat) : Int)) w := by
  have e : (if (u : Int) < (if (z : Int) < (if (y : Int) < (x : Int) then (y : Int) else x) then (z : Int) else (if (y : Int) < (x : Int) then (y : Int) else x)) then (u : Int) else (if (z : Int) < (if (y : Int) < (x : Int) then (y : Int) else x) then (z : Int) else (if (y : Int) < (x : Int) then (y : Int) else x))) = ((min (min (min x y) z) u : Nat) : Int) := by
    repeat' split
    all_goals omega
  rw [← e]
  simp [Builtin.min_, Builtin.min2]

/-- what is held through a region: a row of bytes, and what came in -/
def HeldB (w0 cur : World) (g : Nat) (l : List UInt8) : Prop := BRow cur g l ∧ Below w0.heap.size w0 cur
theorem heldb_step {w0 cur nx : World} {g : Nat} {l : List UInt8} (h : HeldB w0 cur g l) (hb : Below cur.heap.size cur nx) : HeldB w0 nx g l :=
  ⟨h.1.kept hb, h.2.trans (hb.mono h.2.size)⟩
theorem heldb_drew {w0 cur nx : World} {g : Nat} {l : List UInt8} (h : HeldB w0 cur g l) (hb : Below cur.drew.heap.size cur.drew nx) : HeldB w0 nx g l :=
  ⟨BRow.kept (w := cur.drew) h.1 hb, h.2.drew.trans (hb.mono h.2.size)⟩

set_option maxHeartbeats 4000000 in
set_option maxRecDepth 100000 in
theorem frameAdds_any (a b c : ByteArray) (w : World) (ha : a.size ≤ 140737488351232) (hb : b.size ≤ 140737488351232) (hc : c.size ≤ 140737488351232) :
    Calls Try.prog 7 #[.string a, .string b, .string c] w fun e w' => e = .returned (.bool true) ∧ Below w.heap.size w w' := by
  have hmin := fun w => min4 a.size b.size c.size 1000 w
  have n1 : min (min (min a.size b.size) c.size) 1000 ≤ 1000 := by omega
  have na : min (min (min a.size b.size) c.size) 1000 ≤ a.size := by omega
  have nb : min (min (min a.size b.size) c.size) 1000 ≤ b.size := by omega
  have nc : min (min (min a.size b.size) c.size) 1000 ≤ c.size := by omega
  generalize min (min (min a.size b.size) c.size) 1000 = n at *
  replace hmin : ∀ w, (Builtin.min_ #[3, 3, 3, 3] 3 #[.int .i64 (a.size : Int), .int .i64 (b.size : Int), .int .i64 (c.size : Int), .int .i64 1000]).run Try.prog w = .ok (.int .i64 (n : Int)) w := hmin
  have hmk := fun w => make_bytes n (by omega) w
  go_enter Try.func7, Try.ntmps7
  go_wp2_with fail
  refine (awake_any _).mono ?_
  rintro e w1 ⟨rfl, hb1⟩
  replace hb1 := Lib.hid hb1
  go_wp2_with fail
  clear hmin hmk
  have hB0 : Below w.heap.size w (w1.alloc (.cells (zb n) 5)) := hb1.out.alloc hb1.out.size _
  have hR0 := BRow.made w1 n
  have hg0 : w.heap.size ≤ w1.heap.size := hb1.out.size
  generalize hW : w1.alloc (.cells (zb n) 5) = W at *
  generalize hg : w1.heap.size = g at *
  have hm0 : mixed (bl a) (bl b) (bl c) n 0 = List.replicate n 0 := by simp [mixed]
  have hlen : ∀ k, k ≤ n → (mixed (bl a) (bl b) (bl c) n k).length = n := by
    intro k hk
    have hl := xor3_length ((bl a).take n) ((bl b).take n) ((bl c).take n) n (by rw [List.length_take, bl_length]; omega) (by rw [List.length_take, bl_length]; omega) (by rw [List.length_take, bl_length]; omega)
    unfold mixed
    rw [List.length_append, List.length_take, List.length_replicate]
    omega
  rw [← hm0] at hR0
  replace hm0 := Lib.hid hm0
  replace hlen := Lib.hid hlen
  replace hW := Lib.hid hW
  replace hg := Lib.hid hg
  replace hB0 := Lib.hid hB0
  replace hR0 := Lib.hid hR0
  go_loopw [23] (fun i wr => ∃ k : Nat, k ≤ n ∧ i = .int .i64 k ∧ Hid (BRow wr g (mixed (bl a) (bl b) (bl c) n k)) ∧ Hid (Below w.heap.size w wr)) (fun i _ => n - (intOf i).toNat)
  case atStart => exact ⟨0, by omega, rfl, hR0, hB0⟩
  case round =>
    obtain ⟨k, hk, rfl, hR, hB⟩ := hrel
    by_cases hlt : k < n
    · have kz : (k : Int) < (n : Int) := by omega
      have ka : (k : Int) < (a.size : Int) := by omega
      have kb : (k : Int) < (b.size : Int) := by omega
      have kc : (k : Int) < (c.size : Int) := by omega
      have hfz := hR.out.free (i := k)
      have hcl := hR.out.cell (i := k) (by rw [hlen.out k hk]; exact hlt)
      have hset := mixed_set (bl a) (bl b) (bl c) n k a[k] b[k] c[k] (by rw [bl_length]; omega) (by rw [bl_length]; omega) (by rw [bl_length]; omega) hlt (bl_get a k (by omega)) (bl_get b k (by omega)) (bl_get c k (by omega))
      have x1 := xor_u8 a[k].toNat b[k].toNat a[k].toNat_lt b[k].toNat_lt
      have x2 := xor_u8 (a[k].toNat ^^^ b[k].toNat) c[k].toNat (Nat.xor_lt_two_pow (n := 8) a[k].toNat_lt b[k].toNat_lt) c[k].toNat_lt
      have x3 : a[k].toNat ^^^ b[k].toNat ^^^ c[k].toNat = (a[k] ^^^ b[k] ^^^ c[k]).toNat := by rw [UInt8.toNat_xor, UInt8.toNat_xor]
      rw [x3] at x2
      generalize a[k] ^^^ b[k] ^^^ c[k] = x at *
      generalize a[k].toNat ^^^ b[k].toNat = y at *
      generalize (mixed (bl a) (bl b) (bl c) n k)[k]'(by rw [hlen.out k hk]; exact hlt) = old at *
      have hR' := hR.out.set (i := k) x
      rw [hset] at hR'
      replace hset := Lib.hid hset
      replace x3 := Lib.hid x3
      replace hR' := Lib.hid hR'
      go_wp2_with fail
      go_still_tail 14, (by kernel_rfl)
      change wpList _ _ _ _ _ (World.drew _)
      have hBS : Below w.heap.size w ((World.setCell _ ⟨g, k, none⟩ (Value.int IntKind.u8 (x.toNat : Int))).drew) := (hB.out.setCell (p := ⟨g, k, none⟩) hg0 _).drew
      replace hR' := Lib.hid (hR'.out.drewN 1)
      replace hBS := Lib.hid hBS
      go_wp2_with fail
      go_roundw
      case rel => exact ⟨k + 1, by omega, by go_num, hR', hBS⟩
      case measure => simp [intOf]; omega
    · obtain rfl : k = n := by omega
      have e1 : mixed (bl a) (bl b) (bl c) k k = xor3 ((bl a).take k) ((bl b).take k) ((bl c).take k) := by
        have hl := xor3_length ((bl a).take k) ((bl b).take k) ((bl c).take k) k (by rw [List.length_take, bl_length]; omega) (by rw [List.length_take, bl_length]; omega) (by rw [List.length_take, bl_length]; omega)
        unfold mixed
        rw [List.take_of_length_le (by omega), Nat.sub_self]
        simp
      have hlk := hlen.out k (Nat.le_refl _)
      rw [e1] at hR hlk
      have hX := crc_xor3 ((bl a).take k) ((bl b).take k) ((bl c).take k) (by rw [List.length_take, List.length_take, bl_length, bl_length]; omega) (by rw [List.length_take, List.length_take, bl_length, bl_length]; omega)
      obtain ⟨A, hA⟩ : ∃ A : ByteArray, a.extract 0 k = A := ⟨_, rfl⟩
      obtain ⟨B, hBd⟩ : ∃ B : ByteArray, b.extract 0 k = B := ⟨_, rfl⟩
      obtain ⟨C, hCd⟩ : ∃ C : ByteArray, c.extract 0 k = C := ⟨_, rfl⟩
      have qA : bl A = (bl a).take k := by rw [← hA]; unfold bl; rw [Lib.extract_data, List.drop_zero, Nat.sub_zero]
      have qB : bl B = (bl b).take k := by rw [← hBd]; unfold bl; rw [Lib.extract_data, List.drop_zero, Nat.sub_zero]
      have qC : bl C = (bl c).take k := by rw [← hCd]; unfold bl; rw [Lib.extract_data, List.drop_zero, Nat.sub_zero]
      obtain ⟨X, hXd⟩ : ∃ X : ByteArray, (⟨(xor3 ((bl a).take k) ((bl b).take k) ((bl c).take k)).toArray⟩ : ByteArray) = X := ⟨_, rfl⟩
      have qX : bl X = xor3 ((bl a).take k) ((bl b).take k) ((bl c).take k) := by rw [← hXd, bl_mk]
      have hconv := fun w h => bytes_text w g k k _ h hlk
      rw [hXd] at hconv
      rw [← qX, ← qA, ← qB, ← qC] at hX
      have sA : A.size ≤ 1000 := by rw [sz, qA, List.length_take]; omega
      have sB : B.size ≤ 1000 := by rw [sz, qB, List.length_take]; omega
      have sC : C.size ≤ 1000 := by rw [sz, qC, List.length_take]; omega
      have sX : X.size ≤ 1000 := by rw [sz, qX, hlk]; omega
      have cA := fun w => check_any A w (by omega)
      have cB := fun w => check_any B w (by omega)
      have cC := fun w => check_any C w (by omega)
      have cX := fun w => check_any X w (by omega)
      have lA := crc_lt (bl A)
      have lB := crc_lt (bl B)
      have lC := crc_lt (bl C)
      rw [hX] at cX
      have x1 := xor_u32 (crc (bl A)) (crc (bl B)) lA lB
      have x2 := xor_u32 (crc (bl A) ^^^ crc (bl B)) (crc (bl C)) (Nat.xor_lt_two_pow (n := 32) (by omega) (by omega)) lC
      generalize crc (bl A) = p1 at *
      generalize crc (bl B) = p2 at *
      generalize crc (bl C) = p3 at *
      generalize p1 ^^^ p2 ^^^ p3 = p5 at *
      generalize p1 ^^^ p2 = p4 at *
      replace hlk := Lib.hid hlk
      replace hX := Lib.hid hX
      replace hXd := Lib.hid hXd
      replace qA := Lib.hid qA
      replace qB := Lib.hid qB
      replace qC := Lib.hid qC
      replace qX := Lib.hid qX
      replace e1 := Lib.hid e1
      replace cA := Lib.hid cA
      replace cB := Lib.hid cB
      replace cC := Lib.hid cC
      replace cX := Lib.hid cX
      have kaz : (k : Int) ≤ (a.size : Int) := by omega
      have kbz : (k : Int) ≤ (b.size : Int) := by omega
      have kcz : (k : Int) ≤ (c.size : Int) := by omega
      have hH : HeldB w _ g _ := ⟨hR.out, hB.out⟩
      replace hH := Lib.hid hH
      replace hconv := Lib.hid hconv
      clear hR hB
      go_wp2_with fail
      go_region_held3 (fun w' => (convert 38 9 (Value.slice (some ⟨g, 0, none⟩) k k)).run Try.prog w' = Result.ok (Value.string X) w')
        (first | exact hconv.out _ hH.out.1)
        (first
          | (go_at_call 13; (with_reducible refine (cX.out _).mono ?_); rintro e w' ⟨rfl, hb⟩; replace hH := Lib.hid (by first | exact heldb_step hH.out hb | exact heldb_drew hH.out hb); clear hb)
          | (go_at_call 13; (with_reducible refine (cA.out _).mono ?_); rintro e w' ⟨rfl, hb⟩; replace hH := Lib.hid (by first | exact heldb_step hH.out hb | exact heldb_drew hH.out hb); clear hb)
          | (go_at_call 13; (with_reducible refine (cB.out _).mono ?_); rintro e w' ⟨rfl, hb⟩; replace hH := Lib.hid (by first | exact heldb_step hH.out hb | exact heldb_drew hH.out hb); clear hb)
          | (go_at_call 13; (with_reducible refine (cC.out _).mono ?_); rintro e w' ⟨rfl, hb⟩; replace hH := Lib.hid (by first | exact heldb_step hH.out hb | exact heldb_drew hH.out hb); clear hb))
      go_wp2_with fail
      go_ret
      exact ⟨rfl, hH.out.2⟩
end Go.Proofs.Ytipcnjmlkddaaaa
