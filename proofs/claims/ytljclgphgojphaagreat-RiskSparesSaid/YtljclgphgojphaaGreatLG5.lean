/- The contracts of the reference's eight, Text. -/
import Derived.Test.YtljclgphgojphaaGreatLG2
import Derived.StillTailTactics
namespace Go.Proofs.YtljclgphgojphaaGreat
open Go.RowKit
set_option linter.unusedVariables false

theorem joinT (a b : List UInt8) (w : World) (h : a.length + b.length ≤ 1000000) : (Op.stringOp .add (⟨a.toArray⟩ : ByteArray) (⟨b.toArray⟩ : ByteArray)).run Tryz.prog w = .ok (.string ⟨(a ++ b).toArray⟩) w := by
  rw [run_string_add_sum w _ _ (by rw [mk_size, mk_size]; omega), mk_append]
theorem wrap_toU (n : Int) : IntKind.u64.wrap n = (toU n : Nat) := by
  rw [IntKind.wrap_u64]
  unfold toU
  omega
theorem bes_step (k n : Nat) : bes (k + 1) n = UInt8.ofNat (n / 256 ^ k % 256) :: bes k n := rfl
set_option maxHeartbeats 2000000 in
set_option maxRecDepth 100000 in
theorem eightRL_any (n : Int) (w : World) :
    Calls Tryz.prog 58 #[.int .i64 n] w fun e w' => e = .returned (.string ⟨(bes 8 (toU n)).toArray⟩) ∧ Below w.heap.size w w' := by
  have hcv := wrap_toU n
  have hlt := toU_lt n
  generalize toU n = u at *
  go_enter Tryz.func58, Tryz.ntmps58
  go_wp2_with fail
  go_loopw [3, 4, 5] (fun x s i wr => ∃ k : Nat, k ≤ 8 ∧ i = .int .i64 (k : Int) ∧ x = .int .u64 ((u / 256 ^ k : Nat) : Int) ∧ s = .string ⟨(bes k u).toArray⟩ ∧ Hid (Below w.heap.size w wr)) (fun _ _ i _ => 8 - (intOf i).toNat)
  case atStart => exact ⟨0, by omega, rfl, by simp, rfl, Lib.hid (Below.refl _ _)⟩
  case round =>
    obtain ⟨k, hk, rfl, rfl, rfl, hB⟩ := hrel
    by_cases h8 : k < 8
    · have kz : (k : Int) < 8 := by omega
      have hxn : u / 256 ^ k ≤ u := Nat.div_le_self _ _
      have hnx : u / 256 ^ (k + 1) = u / 256 ^ k / 256 := by rw [Nat.pow_succ, Nat.div_div_eq_div_mul]
      have hlo := bes_step k u
      have hlen := bes_length k u
      generalize u / 256 ^ k = x at *
      have hu8 : ((UInt8.ofNat (x % 256)).toNat : Int) = (x : Int) % 256 := by simp
      have hconv := bytes_text (wr.alloc (.cells #[.int .u8 ((x : Int) % 256)] 5)) wr.heap.size 1 1 [UInt8.ofNat (x % 256)] (by
        unfold BRow Lib.byteCells
        simp only [List.map_cons, List.map_nil, hu8]
        exact heap_alloc_new wr _) rfl
      have hadd : ∀ w, (Op.stringOp .add (⟨[UInt8.ofNat (x % 256)].toArray⟩ : ByteArray) (⟨(bes k u).toArray⟩ : ByteArray)).run Tryz.prog w = .ok (.string ⟨(bes (k + 1) u).toArray⟩) w := fun w => by
        rw [joinT _ _ w (by rw [hlen]; simp; omega), hlo]
        rfl
      generalize (⟨[UInt8.ofNat (x % 256)].toArray⟩ : ByteArray) = S1 at *
      generalize (⟨(bes k u).toArray⟩ : ByteArray) = S2 at *
      replace hlo := Lib.hid hlo
      replace hnx := Lib.hid hnx
      replace hu8 := Lib.hid hu8
      replace hlen := Lib.hid hlen
      have hB1 : Hid (Below w.heap.size w (wr.alloc (.cells #[.int .u8 ((x : Int) % 256)] 5))) := Lib.hid (hB.out.alloc hB.out.size _)
      go_wp2_with fail
      go_roundw
      case rel => exact ⟨k + 1, by omega, by go_num, by rw [hnx.out]; go_num, rfl, hB1⟩
      case measure => simp [intOf]; omega
    · obtain rfl : k = 8 := by omega
      go_wp2_with fail
      go_ret
      exact ⟨rfl, hB.out⟩
theorem rowB_succ (f : Nat → Int) (n : Nat) : rowB f (n + 1) = rowB f n ++ bes 8 (toU (f n)) := rfl
theorem rowsB_succ (B : Nat → Nat → Int) (nc m : Nat) : rowsB B nc (m + 1) = rowsB B nc m ++ rowB (B m) nc := rfl

set_option maxHeartbeats 8000000 in
set_option maxRecDepth 100000 in
theorem textRL_any {P : Nat → Prop} {b : Nat} {l : LM} {gB cB gN cN : Nat} {g cp : Nat → Nat} (w : World) (h : RLv P w b l gB cB gN cN g cp) (hl : l.Ok) :
    Calls Tryz.prog 21 #[.pointer (some ⟨b, 0, none⟩)] w fun e w' => e = .returned (sv l.text) ∧ Below w.heap.size w w' := by
  have c0 := h.c0
  have c1 := h.c1
  have hm := hl.nm
  have hc := hl.nc
  have h8 := fun x w => eightRL_any x w
  have hwm : IntKind.u8.wrap (l.nm : Int) = (l.nm : Int) := by rw [IntKind.wrap_u8]; omega
  have hwc : IntKind.u8.wrap (l.nc : Int) = (l.nc : Int) := by rw [IntKind.wrap_u8]; omega
  have hrow : BRow ((w.alloc (.cells #[.int .u8 (l.nm : Int), .int .u8 (l.nc : Int)] 5)).drew) w.heap.size [UInt8.ofNat l.nm, UInt8.ofNat l.nc] := by
    unfold BRow Lib.byteCells
    have e1 : ((UInt8.ofNat l.nm).toNat : Int) = (l.nm : Int) := by rw [UInt8.toNat_ofNat']; omega
    have e2 : ((UInt8.ofNat l.nc).toNat : Int) = (l.nc : Int) := by rw [UInt8.toNat_ofNat']; omega
    simp only [List.map_cons, List.map_nil, e1, e2]
    exact heap_alloc_new w _
  have hconv := bytes_text ((w.alloc (.cells #[.int .u8 (l.nm : Int), .int .u8 (l.nc : Int)] 5)).drew) w.heap.size 2 2 _ hrow rfl
  have hB0 : Below w.heap.size w ((w.alloc (.cells #[.int .u8 (l.nm : Int), .int .u8 (l.nc : Int)] 5)).drew) := ((Below.refl w.heap.size w).alloc (Nat.le_refl _) _).drew
  have htx : l.text = [UInt8.ofNat l.nm, UInt8.ofNat l.nc] ++ (rowB l.N l.nc ++ rowsB l.B l.nc l.nm) := rfl
  have hhl : ([UInt8.ofNat l.nm, UInt8.ofNat l.nc] : List UInt8).length = 2 := rfl
  generalize ([UInt8.ofNat l.nm, UInt8.ofNat l.nc] : List UInt8) = hd at *
  replace htx := Lib.hid htx
  replace hB0 := Lib.hid hB0
  replace hrow := Lib.hid hrow
  replace h8 := Lib.hid h8
  replace h := Lib.hid h
  go_enter Tryz.func21, Tryz.ntmps21
  go_wp2_with fail
  go_still_tail 12, (by kernel_rfl)
  change wpList _ _ _ _ _ (World.drew _)
  go_wp2_with fail
  go_loopw [3, 4] (fun s i wr => ∃ k : Nat, k ≤ l.nc ∧ i = .int .i64 (k : Int) ∧ s = .string ⟨(hd ++ rowB l.N k).toArray⟩ ∧ Hid (Below w.heap.size w wr)) (fun _ i _ => l.nc - (intOf i).toNat)
  case atStart => exact ⟨0, by omega, rfl, by unfold rowB; rw [List.append_nil], hB0⟩
  case round =>
    obtain ⟨k, hk, rfl, rfl, hB⟩ := hrel
    have hRr := h.out.below hB.out
    have d1 := hRr.c1
    by_cases hkn : k < l.nc
    · have kz : (k : Int) < (l.nc : Int) := by omega
      have x0 := hRr.nos.cell hkn
      have hll : (hd ++ rowB l.N k).length = 2 + 8 * k := by rw [List.length_append, hhl, rowB_length]
      have hadd := fun w => joinT (hd ++ rowB l.N k) (bes 8 (toU (l.N k))) w (by rw [hll, bes_length]; omega)
      rw [List.append_assoc, ← rowB_succ] at hadd
      have h8k := h8.out (l.N k)
      generalize (⟨(bes 8 (toU (l.N k))).toArray⟩ : ByteArray) = S8 at *
      generalize (⟨(hd ++ rowB l.N k).toArray⟩ : ByteArray) = S1 at *
      generalize hS2 : (⟨(hd ++ rowB l.N (k + 1)).toArray⟩ : ByteArray) = S2 at *
      replace h8k := Lib.hid h8k
      replace hRr := Lib.hid hRr
      replace hll := Lib.hid hll
      replace hS2 := Lib.hid hS2
      go_wp2_with fail
      with_reducible refine (h8k.out _).mono ?_
      rintro e w5 ⟨rfl, hB5⟩
      have hB6 : Hid (Below w.heap.size w w5) := Lib.hid (hB.out.trans (hB5.mono hB.out.size))
      replace hB5 := Lib.hid hB5
      go_wp2_with fail
      go_roundw
      case rel => exact ⟨k + 1, by omega, by go_num, by rw [hS2.out], hB6⟩
      case measure => simp [intOf]; omega
    · obtain rfl : k = l.nc := by omega
      have kz : ¬ (l.nc : Int) < (l.nc : Int) := by omega
      generalize hd2 : hd ++ rowB l.N l.nc = hd' at *
      have hl2 : hd'.length = 2 + 8 * l.nc := by rw [← hd2, List.length_append, hhl, rowB_length]
      replace hRr := Lib.hid hRr
      replace hd2 := Lib.hid hd2
      go_wp2_with fail
      go_loopw [3, 5] (fun s i wr => ∃ m : Nat, m ≤ l.nm ∧ i = .int .i64 (m : Int) ∧ s = .string ⟨(hd' ++ rowsB l.B l.nc m).toArray⟩ ∧ Hid (Below w.heap.size w wr)) (fun _ i _ => l.nm - (intOf i).toNat)
      case atStart => exact ⟨0, by omega, rfl, by unfold rowsB; rw [List.append_nil], hB⟩
      case round =>
        obtain ⟨m, hmm, rfl, rfl, hB2⟩ := hrel
        have hRr2 := h.out.below hB2.out
        have e0 := hRr2.c0
        by_cases hmn : m < l.nm
        · have mz : (m : Int) < (l.nm : Int) := by omega
          have hst : (⟨(hd' ++ rowsB l.B l.nc m).toArray⟩ : ByteArray) = ⟨(hd' ++ (rowsB l.B l.nc m ++ rowB (l.B m) 0)).toArray⟩ := by unfold rowB; rw [List.append_nil]
          have hfin : (⟨(hd' ++ (rowsB l.B l.nc m ++ rowB (l.B m) l.nc)).toArray⟩ : ByteArray) = ⟨(hd' ++ rowsB l.B l.nc (m + 1)).toArray⟩ := rfl
          replace hRr2 := Lib.hid hRr2
          replace hst := Lib.hid hst
          replace hfin := Lib.hid hfin
          go_wp2_with fail
          go_loopw [3, 6] (fun s i wr => ∃ k : Nat, k ≤ l.nc ∧ i = .int .i64 (k : Int) ∧ s = .string ⟨(hd' ++ (rowsB l.B l.nc m ++ rowB (l.B m) k)).toArray⟩ ∧ Hid (Below w.heap.size w wr)) (fun _ i _ => l.nc - (intOf i).toNat)
          case atStart => exact ⟨0, by omega, rfl, by rw [hst.out], hB2⟩
          case round =>
            obtain ⟨k, hk, rfl, rfl, hB3⟩ := hrel
            have hRr3 := h.out.below hB3.out
            have f0 := hRr3.c0
            have f1 := hRr3.c1
            have fr := hRr3.row hmn
            by_cases hkn : k < l.nc
            · have kz : (k : Int) < (l.nc : Int) := by omega
              have x0 := (hRr3.bal m hmn).cell hkn
              have h3 : 8 * l.nc * m ≤ 8 * 8 * 16 := Nat.mul_le_mul (by omega) (by omega)
              have hll : (hd' ++ (rowsB l.B l.nc m ++ rowB (l.B m) k)).length ≤ 5000 := by rw [List.length_append, List.length_append, hl2, rowsB_length, rowB_length]; omega
              have hadd := fun w => joinT (hd' ++ (rowsB l.B l.nc m ++ rowB (l.B m) k)) (bes 8 (toU (l.B m k))) w (by rw [bes_length]; omega)
              rw [List.append_assoc, List.append_assoc, ← rowB_succ] at hadd
              have h8k := h8.out (l.B m k)
              generalize (⟨(bes 8 (toU (l.B m k))).toArray⟩ : ByteArray) = S8 at *
              generalize (⟨(hd' ++ (rowsB l.B l.nc m ++ rowB (l.B m) k)).toArray⟩ : ByteArray) = S1 at *
              generalize hS2 : (⟨(hd' ++ (rowsB l.B l.nc m ++ rowB (l.B m) (k + 1))).toArray⟩ : ByteArray) = S2 at *
              replace h8k := Lib.hid h8k
              replace hRr3 := Lib.hid hRr3
              replace hll := Lib.hid hll
              replace hS2 := Lib.hid hS2
              clear h3
              go_wp2_with fail
              with_reducible refine (h8k.out _).mono ?_
              rintro e w5 ⟨rfl, hB5⟩
              have hB6 : Hid (Below w.heap.size w w5) := Lib.hid (hB3.out.trans (hB5.mono hB3.out.size))
              replace hB5 := Lib.hid hB5
              go_wp2_with fail
              go_roundw
              case rel => exact ⟨k + 1, by omega, by go_num, by rw [hS2.out], hB6⟩
              case measure => simp [intOf]; omega
            · obtain rfl : k = l.nc := by omega
              have kz : ¬ (l.nc : Int) < (l.nc : Int) := by omega
              replace hRr3 := Lib.hid hRr3
              rw [hfin.out]
              go_wp2_with fail
              go_roundw
              case rel => exact ⟨m + 1, by omega, by go_num, rfl, hB3⟩
              case measure => simp [intOf]; omega
        · obtain rfl : m = l.nm := by omega
          have mz : ¬ (l.nm : Int) < (l.nm : Int) := by omega
          have hT : (⟨(hd' ++ rowsB l.B l.nc l.nm).toArray⟩ : ByteArray) = ⟨l.text.toArray⟩ := by rw [htx.out, ← hd2.out, List.append_assoc]
          replace hRr2 := Lib.hid hRr2
          replace hT := Lib.hid hT
          go_wp2_with fail
          go_ret
          exact ⟨congrArg (fun s => Ending.returned (Value.string s)) hT.out, hB2.out⟩
end Go.Proofs.YtljclgphgojphaaGreat
