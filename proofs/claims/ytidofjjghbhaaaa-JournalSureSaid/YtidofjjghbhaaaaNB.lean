/- The contracts of the journal's laid, framed, change.
  The contracts of the steps of the journal's Append and Snap.
  The contracts of the last steps of the journal's Append and Snap.
  The contract of the journal's Append.
  The contract of the journal's Append: its steps.
  The contract of the journal's Snap.
  The contract of the journal's Snap: its steps; the program's journal keeps its contracts.
  The program's journal keeps the contracts that the laws are walked with. -/
import Derived.Test.YtidofjjghbhaaaaNA
namespace Go.Proofs.Ytidofjjghbhaaaa
open Go.RowKit
set_option linter.unusedVariables false

/-- an array of bytes -/
def ARow (w : World) (g : Nat) (l : List UInt8) : Prop := w.heap[g]? = some (.cells ((Lib.byteCells l).toArray) 118 (0, 0))
theorem ARow.set {w : World} {g i : Nat} {l : List UInt8} (h : ARow w g l) (x : UInt8) : ARow (w.setCell ⟨g, i, none⟩ (.int .u8 (x.toNat : Int))) g (l.set i x) := by
  have := obj_set h i (.int .u8 (x.toNat : Int))
  unfold ARow
  rw [this]
  simp [Lib.byteCells, List.map_set]
theorem set_front (x : UInt8) (l : List UInt8) : ∀ m, (List.replicate (m + 1) 0 ++ l).set m x = List.replicate m 0 ++ x :: l
  | 0 => rfl
  | m + 1 => by
    have := set_front x l m
    rw [List.replicate_succ, List.cons_append, List.set_cons_succ, this, List.replicate_succ]; rfl
theorem arow_text (w : World) (g : Nat) (l : List UInt8) (h : ARow w g l) (hl : l.length = 8) : (convert 67 9 (.slice (some ⟨g, 0, none⟩) 8 8)).run Try.prog w = .ok (.string ⟨l.toArray⟩) w := by
  rw [← hl]
  refine run_convert_bytes_back w 67 9 5 ⟨g, 0, none⟩ l.length l Try.underlying67 Try.underlying5 Try.underlying9 (fun j hj => ?_)
  have ha : (⟨g, 0, none⟩ : Addr).add j = ⟨g, j, none⟩ := by unfold Addr.add; split <;> simp_all
  rw [ha, cell_of_row w g j _ 118 (0, 0) h]
  simp [Lib.byteCells, hj]
theorem low_length : ∀ i n, (low i n).length = i
  | 0, n => rfl
  | i + 1, n => by rw [low, List.length_append, low_length]; rfl

set_option maxHeartbeats 2000000 in
set_option maxRecDepth 100000 in
theorem laid_any (n : Nat) (t : List UInt8) (w : World) (hn : n < 9223372036854775808) (ht : t.length ≤ 4611686018427387904) :
    Calls Try.prog 83 #[.agg #[.int .i64 (n : Int), sv t]] w fun e w' => e = .returned (sv (eight n ++ t)) ∧ Below w.heap.size w w' := by
  have hadd : ∀ w, (Op.stringOp .add (⟨(low 8 n).toArray⟩ : ByteArray) (⟨t.toArray⟩ : ByteArray)).run Try.prog w = .ok (sv (eight n ++ t)) w := fun w => by
    rw [run_string_add_sum w _ _ (by rw [mk_size, mk_size, low_length]; omega), mk_append, low_eight]
    rfl
  have hA0 : ARow ((w.alloc (.cells #[.int .i64 (n : Int), sv t] 78)).alloc (.cells #[.int .u8 0, .int .u8 0, .int .u8 0, .int .u8 0, .int .u8 0, .int .u8 0, .int .u8 0, .int .u8 0] 118)) (w.heap.size + 1) (List.replicate 8 0 ++ low 0 n) := heap_alloc2_new w _ _
  have hb1 : ((w.alloc (.cells #[.int .i64 (n : Int), sv t] 78)).alloc (.cells #[.int .u8 0, .int .u8 0, .int .u8 0, .int .u8 0, .int .u8 0, .int .u8 0, .int .u8 0, .int .u8 0] 118)).cell? ⟨w.heap.size, 1, none⟩ = some (sv t) := obj_cell (heap_alloc2_old w _ _) rfl
  have hB0 : Below w.heap.size w ((w.alloc (.cells #[.int .i64 (n : Int), sv t] 78)).alloc (.cells #[.int .u8 0, .int .u8 0, .int .u8 0, .int .u8 0, .int .u8 0, .int .u8 0, .int .u8 0, .int .u8 0] 118)) := ((Below.refl _ _).alloc (Nat.le_refl _) _).alloc (by simp) _
  unfold sv at *
  generalize (⟨t.toArray⟩ : ByteArray) = T at *
  generalize (⟨(eight n ++ t).toArray⟩ : ByteArray) = X at *
  have hwn : IntKind.u64.wrap (n : Int) = (n : Int) := by rw [IntKind.wrap_u64]; omega
  replace hA0 := Lib.hid hA0
  replace hb1 := Lib.hid hb1
  replace hB0 := Lib.hid hB0
  go_enter Try.func83, Try.ntmps83
  go_wp2_with fail
  go_loopw [4, 5] (fun x at_ wr => ∃ q : Nat, q ≤ 8 ∧ at_ = .int .i64 ((q : Int) - 1) ∧ x = .int .u64 ((n / 256 ^ (8 - q) : Nat) : Int) ∧ Hid (ARow wr (w.heap.size + 1) (List.replicate q 0 ++ low (8 - q) n) ∧ Below w.heap.size w wr ∧ wr.cell? ⟨w.heap.size, 1, none⟩ = some (.string T))) (fun _ at_ _ => (intOf at_ + 1).toNat)
  case atStart => exact ⟨8, by omega, rfl, by simp, Lib.hid ⟨hA0.out, hB0.out, hb1.out⟩⟩
  case round =>
    obtain ⟨q, hq, rfl, rfl, hR⟩ := hrel
    by_cases h0 : 0 < q
    · obtain ⟨k, rfl⟩ : ∃ k, q = k + 1 := ⟨q - 1, by omega⟩
      have hk1 : (((k + 1 : Nat) : Int) - 1) = (k : Int) := by omega
      rw [hk1]
      obtain ⟨i, hi⟩ : ∃ i, 8 - (k + 1) = i := ⟨_, rfl⟩
      have hi2 : 8 - k = i + 1 := by omega
      rw [hi] at hR ⊢
      obtain ⟨hA, hB, hb⟩ := hR.out
      have hkz : (0 : Int) ≤ (k : Int) := by omega
      have hk8 : (k : Int) < 8 := by omega
      have hnx : n / 256 ^ (i + 1) = n / 256 ^ i / 256 := by rw [Nat.pow_succ, Nat.div_div_eq_div_mul]
      have hset := set_front (UInt8.ofNat (n / 256 ^ i)) (low i n) k
      rw [← low_front i n] at hset
      have hu8 : ((UInt8.ofNat (n / 256 ^ i)).toNat : Int) = ((n / 256 ^ i : Nat) : Int) % 256 := by simp
      have hc : wr.cell? ⟨w.heap.size + 1, k, none⟩ = some (.int .u8 0) := by
        refine obj_cell hA ?_
        simp [Lib.byteCells, List.replicate_succ']
      have hfr := obj_free hA k
      have hA2 := ARow.set (i := k) hA (UInt8.ofNat (n / 256 ^ i))
      rw [hset, hu8] at hA2
      have hb2 : ∀ u, (wr.setCell ⟨w.heap.size + 1, k, none⟩ u).cell? ⟨w.heap.size, 1, none⟩ = some (.string T) := fun u => by rw [World.cell?_setCell_other _ _ _ _ (by simp)]; exact hb
      have hB2 : ∀ u, Below w.heap.size w (wr.setCell ⟨w.heap.size + 1, k, none⟩ u) := fun u => hB.setCell (by show w.heap.size ≤ w.heap.size + 1; omega) u
      have hxn : n / 256 ^ i ≤ n := Nat.div_le_self _ _
      generalize hx : n / 256 ^ i = x at *
      replace hx := Lib.hid hx
      have hN : Hid (∀ j, 8 - k = j → ARow (wr.setCell ⟨w.heap.size + 1, k, none⟩ (.int .u8 ((x : Int) % 256))) (w.heap.size + 1) (List.replicate k 0 ++ low j n)) := Lib.hid (fun j hj => by rw [← hj, hi2]; exact hA2)
      replace hA2 := Lib.hid hA2
      replace hA := Lib.hid hA
      replace hB := Lib.hid hB
      replace hB2 := Lib.hid hB2
      replace hb2 := Lib.hid hb2
      replace hb := Lib.hid hb
      replace hu8 := Lib.hid hu8
      replace hset := Lib.hid hset
      replace hnx := Lib.hid hnx
      replace hR := Lib.hid hR
      go_wp2_with fail
      go_roundw
      case rel => exact ⟨k, by omega, by go_num, by rw [hi2, hnx.out]; go_num, Lib.hid ⟨hN.out _ rfl, hB2.out _, hb2.out _⟩⟩
      case measure => simp [intOf]
    · obtain rfl : q = 0 := by omega
      obtain ⟨hA, hB, hb⟩ := hR.out
      have hA8 : ARow wr (w.heap.size + 1) (low 8 n) := hA
      have hconv := fun q => arow_text (wr.drewN q) (w.heap.size + 1) (low 8 n) hA8 (low_length 8 n)
      have hconv1 := arow_text wr.drew (w.heap.size + 1) (low 8 n) hA8 (low_length 8 n)
      generalize (⟨(low 8 n).toArray⟩ : ByteArray) = E8 at *
      replace hA := Lib.hid hA
      replace hA8 := Lib.hid hA8
      replace hB := Lib.hid hB
      replace hR := Lib.hid hR
      go_upto_region 8 with (fail)
      go_region_held3 (fun w' => (convert 67 9 (Value.slice (some ⟨w.heap.size + 1, 0, none⟩) 8 8)).run Try.prog w' = Result.ok (Value.string E8) w' ∧ w'.cell? ⟨w.heap.size, 1, none⟩ = some (.string T)) (exact ⟨hconv1, hb⟩) (fail)
      go_wp2_with fail
      go_ret
      exact ⟨rfl, hB.out.drew⟩

/-- the frame of what is to be laid, or none -/
def JM.frm (j : JM) (n : Nat) (t : List UInt8) : List UInt8 := if j.may t = 0 then frame (eight n ++ t) else []
set_option maxHeartbeats 2000000 in
set_option maxRecDepth 100000 in
theorem framed_any (jb n : Nat) (t : List UInt8) (j : JM) (cur : Array Value) (w : World) (hj : w.heap[jb]? = some (.cells cur 80 (0, 0))) (h4 : cur[4]? = some (.bool j.broken)) (hn : n < 9223372036854775808) (ht : t.length ≤ 40000) :
    Calls Try.prog 53 #[.pointer (some ⟨jb, 0, none⟩), .agg #[.int .i64 (n : Int), sv t]] w fun e w' => e = .returned (.tuple #[sv (j.frm n t), .int .i64 (j.may t)]) ∧ Below w.heap.size w w' := by
  have hjl := obj_lt hj
  have c4 : (w.alloc (.cells #[.int .i64 (n : Int), sv t] 78)).cell? ⟨jb, 4, none⟩ = some (.bool j.broken) := by rw [World.cell?_alloc_lt _ _ _ hjl]; exact obj_cell hj h4
  have hB0 : Below w.heap.size w (w.alloc (.cells #[.int .i64 (n : Int), sv t] 78)) := (Below.refl _ _).alloc (Nat.le_refl _) _
  have hsz : (⟨t.toArray⟩ : ByteArray).size = t.length := mk_size t
  have hmay : j.may t = if j.broken then 9 else 0 := by unfold JM.may; rw [if_neg (by omega)]
  have hL := fun w => laid_any n t w hn (by omega)
  have hP := fun w => put_any (eight n ++ t) w (by rw [List.length_append, eight_length]; omega)
  unfold JM.frm
  unfold sv at *
  generalize (⟨t.toArray⟩ : ByteArray) = T at *
  generalize (⟨(eight n ++ t).toArray⟩ : ByteArray) = X at *
  have hz : ¬ (65528 : Int) < (T.size : Int) := by omega
  replace hj := Lib.hid hj
  replace hB0 := Lib.hid hB0
  replace hL := Lib.hid hL
  replace hP := Lib.hid hP
  cases hb : j.broken with
  | true =>
    rw [hb] at c4 hmay
    simp only [if_true] at hmay
    rw [hmay, if_neg (by omega)]
    clear hmay hsz
    go_enter Try.func53, Try.ntmps53
    go_wp2_with fail
    go_ret2
    exact ⟨rfl, hB0.out⟩
  | false =>
    rw [hb] at c4 hmay
    simp only [Bool.false_eq_true, if_false] at hmay
    rw [hmay, if_pos rfl]
    clear hmay hsz
    generalize (⟨(frame (eight n ++ t)).toArray⟩ : ByteArray) = Fr at *
    go_enter Try.func53, Try.ntmps53
    go_wp2_with (first
      | (go_at_call 83; (with_reducible refine (hL.out _).mono ?_); rintro e w1 ⟨rfl, hB1⟩; replace hB1 := Lib.hid hB1)
      | (go_at_call 82; (with_reducible refine (hP.out _).mono ?_); rintro e w2 ⟨rfl, hB2⟩; replace hB2 := Lib.hid hB2))
    go_ret2
    have h1 := hB0.out.size
    have h2 := hB1.out.size
    exact ⟨rfl, (hB0.out.trans (hB1.out.mono h1)).trans (hB2.out.mono (Nat.le_trans h1 h2))⟩

/-- is a journal broken behind x? -/
def bad (x : Int) : Bool := decide (x ≠ 0) && decide (x ≠ 4)
set_option maxHeartbeats 2000000 in
set_option maxRecDepth 100000 in
theorem change_any (jb : Nat) (sl : Value) (w : World) (R : Int → World → Prop) (hT : Calls Try.prog 40 #[sl] w fun e w' => ∃ x, e = .returned (.int .i64 x) ∧ R x w')
    (hj : ∀ x w', R x w' → ∃ u, w'.cell? ⟨jb, 4, none⟩ = some u ∧ w'.frozen? ⟨jb, 4, none⟩ = false) :
    Calls Try.prog 54 #[.pointer (some ⟨jb, 0, none⟩), sl] w fun e w' => ∃ x w1, e = .returned (.int .i64 x) ∧ R x w1 ∧ w' = w1.setCell ⟨jb, 4, none⟩ (.bool (bad x)) := by
  replace hT := Lib.hid hT
  replace hj := Lib.hid hj
  go_enter Try.func54, Try.ntmps54
  go_upto_region 2 with (first | (go_at_call 40; (refine hT.out.mono ?_); rintro e w1 ⟨x, rfl, hR⟩; obtain ⟨u, hc, hz⟩ := hj.out _ _ hR; replace hR := Lib.hid hR))
  by_cases h0 : x = 0
  · subst h0
    go_wp2_with fail
    go_ret
    exact ⟨0, w1, rfl, hR.out, rfl⟩
  · have b0 : (x != 0) = true := by simpa using h0
    by_cases h4 : x = 4
    · subst h4
      go_wp2_with fail
      go_ret
      exact ⟨4, w1, rfl, hR.out, rfl⟩
    · have b4 : (x != 4) = true := by simpa using h4
      have hb : bad x = true := by unfold bad; simp [h0, h4]
      replace hb := Lib.hid hb
      go_wp2_with fail
      go_ret
      exact ⟨x, w1, rfl, hR.out, by rw [hb.out]⟩
end Go.Proofs.Ytidofjjghbhaaaa
namespace Go.Proofs.Ytidofjjghbhaaaa
open Go.RowKit
set_option linter.unusedVariables false

theorem enter55 (cb : Array Value) (w : World) : (callFunc 55 cb).run Try.prog w = .ok (.enter 55 cb) w := by kernel_rfl
theorem enter56 (cb : Array Value) (w : World) : (callFunc 56 cb).run Try.prog w = .ok (.enter 56 cb) w := by kernel_rfl
theorem enter57 (cb : Array Value) (w : World) : (callFunc 57 cb).run Try.prog w = .ok (.enter 57 cb) w := by kernel_rfl
theorem enter61 (cb : Array Value) (w : World) : (callFunc 61 cb).run Try.prog w = .ok (.enter 61 cb) w := by kernel_rfl
theorem enter62 (cb : Array Value) (w : World) : (callFunc 62 cb).run Try.prog w = .ok (.enter 62 cb) w := by kernel_rfl
theorem enter63 (cb : Array Value) (w : World) : (callFunc 63 cb).run Try.prog w = .ok (.enter 63 cb) w := by kernel_rfl
theorem enter64 (cb : Array Value) (w : World) : (callFunc 64 cb).run Try.prog w = .ok (.enter 64 cb) w := by kernel_rfl
theorem enter66 (cb : Array Value) (w : World) : (callFunc 66 cb).run Try.prog w = .ok (.enter 66 cb) w := by kernel_rfl
theorem enter68 (cb : Array Value) (w : World) : (callFunc 68 cb).run Try.prog w = .ok (.enter 68 cb) w := by kernel_rfl

theorem IsJv.drewN {P : Nat → Prop} {w : World} {jb d : Nat} {m : DM} {j : JM} {p : Option Addr} {cap : Nat} (h : IsJv P w jb d m j p cap) (n : Nat) : IsJv P (w.drewN n) jb d m j p cap := h.kept (Kp.drewN (Kp.refl (fun _ => False) w) n) (fun _ _ _ h => h)
/-- what a step of the disk's answers -/
def StepD (P : Nat → Prop) (w : World) (jb d : Nat) (j : JM) (p : Option Addr) (cap : Nat) (r : Int × DM) (e : Ending) (w' : World) : Prop := e = .returned (.int .i64 r.1) ∧ IsJv P w' jb d r.2 j p cap ∧ Kp P w w'
theorem stepD {P : Nat → Prop} {w : World} {jb d : Nat} {m : DM} {j : JM} {p : Option Addr} {cap : Nat} {f : FuncId} {args : Array Value} {r : Int × DM} (h : IsJv P w jb d m j p cap)
    (hc : Calls Try.prog f args w fun e w' => e = .returned (.int .i64 r.1) ∧ IsD (dP P jb p) w' d r.2 ∧ Kp (dP P jb p) w w') : Calls Try.prog f args w (StepD P w jb d j p cap r) := by
  refine hc.mono ?_
  rintro e w' ⟨rfl, hD, hK⟩
  exact ⟨rfl, h.disked hD hK, dP_kp hK⟩

section
variable {P : Nat → Prop} {w : World} {jb d x y : Nat} {m : DM} {j : JM} {p : Option Addr} {cap : Nat}
set_option maxHeartbeats 2000000
set_option maxRecDepth 100000
theorem app1_any (s : ByteArray) (h : IsJv P w jb d m j p cap) (ok : m.Ok) (hP : ∀ i, w.heap.size ≤ i → P i) (hx : w.cell? ⟨x, 0, none⟩ = some (.pointer (some ⟨jb, 0, none⟩))) (hy : w.cell? ⟨y, 0, none⟩ = some (.string s)) (hxP : ¬ P x) (hyP : ¬ P y) :
    Calls Try.prog 55 #[.pointer (some ⟨x, 0, none⟩), .pointer (some ⟨y, 0, none⟩)] w (StepD P w jb d j p cap (m.app 0 (bl s))) := by
  have k0 : w.cell? ⟨jb, 0, none⟩ = some (.pointer (some ⟨d, 0, none⟩)) := obj_cell h.obj rfl
  have cA := app_any _ d m 0 s w.drew (h.drewN 1).disk ok (h.new hP)
  have hfin : ∀ w', IsD (dP P jb p) w' d (m.app 0 (bl s)).2 → Kp (dP P jb p) w.drew w' → StepD P w jb d j p cap (m.app 0 (bl s)) (.returned (.int .i64 (m.app 0 (bl s)).1)) w' ∧ w'.cell? ⟨x, 0, none⟩ = some (.pointer (some ⟨jb, 0, none⟩)) ∧ w'.cell? ⟨y, 0, none⟩ = some (.string s) ∧ w'.cell? ⟨jb, 0, none⟩ = some (.pointer (some ⟨d, 0, none⟩)) := fun w' hD hK =>
    ⟨⟨rfl, (h.drewN 1).disked hD hK, (Kp.refl P w).drew.trans (dP_kp hK)⟩, hK.cell (w := w.drew) hx (fun e => hxP e.1), hK.cell (w := w.drew) hy (fun e => hyP e.1), obj_cell ((h.drewN 1).disked hD hK).obj rfl⟩
  generalize m.app 0 (bl s) = r at *
  replace cA := Lib.hid cA
  replace hfin := Lib.hid hfin
  replace h := Lib.hid h
  go_enter Try.func55, Try.ntmps55
  go_wp2_with fail
  go_region_held3 (fun w' => w'.cell? ⟨x, 0, none⟩ = some (.pointer (some ⟨jb, 0, none⟩)) ∧ w'.cell? ⟨y, 0, none⟩ = some (.string s) ∧ w'.cell? ⟨jb, 0, none⟩ = some (.pointer (some ⟨d, 0, none⟩))) (first | exact ⟨hx, hy, k0⟩ | exact ⟨kx, ky, kj⟩)
    (first | (go_at_call 11; (with_reducible refine cA.out.mono ?_); rintro e w1 ⟨rfl, hD, hK⟩; obtain ⟨hS, kx, ky, kj⟩ := hfin.out _ hD hK; replace hS := Lib.hid hS; clear hD hK))
  go_wp2_with fail
  go_ret
  exact hS.out
theorem snap2_any (s : ByteArray) (h : IsJv P w jb d m j p cap) (ok : m.Ok) (hP : ∀ i, w.heap.size ≤ i → P i) (hx : w.cell? ⟨x, 0, none⟩ = some (.pointer (some ⟨jb, 0, none⟩))) (hy : w.cell? ⟨y, 0, none⟩ = some (.string s)) (hxP : ¬ P x) (hyP : ¬ P y) :
    Calls Try.prog 62 #[.pointer (some ⟨x, 0, none⟩), .pointer (some ⟨y, 0, none⟩)] w (StepD P w jb d j p cap (m.app 2 (bl s))) := by
  have k0 : w.cell? ⟨jb, 0, none⟩ = some (.pointer (some ⟨d, 0, none⟩)) := obj_cell h.obj rfl
  have cA := app_any _ d m 2 s w.drew (h.drewN 1).disk ok (h.new hP)
  have hfin : ∀ w', IsD (dP P jb p) w' d (m.app 2 (bl s)).2 → Kp (dP P jb p) w.drew w' → StepD P w jb d j p cap (m.app 2 (bl s)) (.returned (.int .i64 (m.app 2 (bl s)).1)) w' ∧ w'.cell? ⟨x, 0, none⟩ = some (.pointer (some ⟨jb, 0, none⟩)) ∧ w'.cell? ⟨y, 0, none⟩ = some (.string s) ∧ w'.cell? ⟨jb, 0, none⟩ = some (.pointer (some ⟨d, 0, none⟩)) := fun w' hD hK =>
    ⟨⟨rfl, (h.drewN 1).disked hD hK, (Kp.refl P w).drew.trans (dP_kp hK)⟩, hK.cell (w := w.drew) hx (fun e => hxP e.1), hK.cell (w := w.drew) hy (fun e => hyP e.1), obj_cell ((h.drewN 1).disked hD hK).obj rfl⟩
  generalize m.app 2 (bl s) = r at *
  replace cA := Lib.hid cA
  replace hfin := Lib.hid hfin
  replace h := Lib.hid h
  go_enter Try.func62, Try.ntmps62
  go_wp2_with fail
  go_region_held3 (fun w' => w'.cell? ⟨x, 0, none⟩ = some (.pointer (some ⟨jb, 0, none⟩)) ∧ w'.cell? ⟨y, 0, none⟩ = some (.string s) ∧ w'.cell? ⟨jb, 0, none⟩ = some (.pointer (some ⟨d, 0, none⟩))) (first | exact ⟨hx, hy, k0⟩ | exact ⟨kx, ky, kj⟩)
    (first | (go_at_call 11; (with_reducible refine cA.out.mono ?_); rintro e w1 ⟨rfl, hD, hK⟩; obtain ⟨hS, kx, ky, kj⟩ := hfin.out _ hD hK; replace hS := Lib.hid hS; clear hD hK))
  go_wp2_with fail
  go_ret
  exact hS.out
theorem app2_any (h : IsJv P w jb d m j p cap) (ok : m.Ok) (hP : ∀ i, w.heap.size ≤ i → P i) (hx : w.cell? ⟨x, 0, none⟩ = some (.pointer (some ⟨jb, 0, none⟩))) :
    Calls Try.prog 56 #[.pointer (some ⟨x, 0, none⟩)] w (StepD P w jb d j p cap (m.syn 0)) := by
  have k0 : w.cell? ⟨jb, 0, none⟩ = some (.pointer (some ⟨d, 0, none⟩)) := obj_cell h.obj rfl
  have cA := stepD h (sync_any _ d m 0 w h.disk ok (h.new hP))
  generalize m.syn 0 = r at *
  replace cA := Lib.hid cA
  replace h := Lib.hid h
  go_enter Try.func56, Try.ntmps56
  go_wp2_with (first | (go_at_call 13; (with_reducible refine cA.out.mono ?_); rintro e w1 ⟨rfl, hD, hK⟩; replace hD := Lib.hid hD; replace hK := Lib.hid hK))
  go_ret
  exact ⟨rfl, hD.out, hK.out⟩
theorem snap3_any (h : IsJv P w jb d m j p cap) (ok : m.Ok) (hP : ∀ i, w.heap.size ≤ i → P i) (hx : w.cell? ⟨x, 0, none⟩ = some (.pointer (some ⟨jb, 0, none⟩))) :
    Calls Try.prog 63 #[.pointer (some ⟨x, 0, none⟩)] w (StepD P w jb d j p cap (m.syn 2)) := by
  have k0 : w.cell? ⟨jb, 0, none⟩ = some (.pointer (some ⟨d, 0, none⟩)) := obj_cell h.obj rfl
  have cA := stepD h (sync_any _ d m 2 w h.disk ok (h.new hP))
  generalize m.syn 2 = r at *
  replace cA := Lib.hid cA
  replace h := Lib.hid h
  go_enter Try.func63, Try.ntmps63
  go_wp2_with (first | (go_at_call 13; (with_reducible refine cA.out.mono ?_); rintro e w1 ⟨rfl, hD, hK⟩; replace hD := Lib.hid hD; replace hK := Lib.hid hK))
  go_ret
  exact ⟨rfl, hD.out, hK.out⟩
theorem snap4_any (h : IsJv P w jb d m j p cap) (ok : m.Ok) (hP : ∀ i, w.heap.size ≤ i → P i) (hx : w.cell? ⟨x, 0, none⟩ = some (.pointer (some ⟨jb, 0, none⟩))) :
    Calls Try.prog 64 #[.pointer (some ⟨x, 0, none⟩)] w (StepD P w jb d j p cap (m.mov 2 1)) := by
  have k0 : w.cell? ⟨jb, 0, none⟩ = some (.pointer (some ⟨d, 0, none⟩)) := obj_cell h.obj rfl
  have cA := stepD h (mov_any _ d m 2 1 w h.disk ok (h.new hP))
  generalize m.mov 2 1 = r at *
  replace cA := Lib.hid cA
  replace h := Lib.hid h
  go_enter Try.func64, Try.ntmps64
  go_wp2_with (first | (go_at_call 65; (with_reducible refine cA.out.mono ?_); rintro e w1 ⟨rfl, hD, hK⟩; replace hD := Lib.hid hD; replace hK := Lib.hid hK))
  go_ret
  exact ⟨rfl, hD.out, hK.out⟩
theorem snap5_any (h : IsJv P w jb d m j p cap) (ok : m.Ok) (hP : ∀ i, w.heap.size ≤ i → P i) (hx : w.cell? ⟨x, 0, none⟩ = some (.pointer (some ⟨jb, 0, none⟩))) :
    Calls Try.prog 66 #[.pointer (some ⟨x, 0, none⟩)] w (StepD P w jb d j p cap (m.cut 0 0)) := by
  have k0 : w.cell? ⟨jb, 0, none⟩ = some (.pointer (some ⟨d, 0, none⟩)) := obj_cell h.obj rfl
  have cA := stepD h (cut_any _ d m 0 0 w h.disk ok (h.new hP))
  generalize m.cut 0 0 = r at *
  replace cA := Lib.hid cA
  replace h := Lib.hid h
  go_enter Try.func66, Try.ntmps66
  go_wp2_with (first | (go_at_call 67; (with_reducible refine cA.out.mono ?_); rintro e w1 ⟨rfl, hD, hK⟩; replace hD := Lib.hid hD; replace hK := Lib.hid hK))
  go_ret
  exact ⟨rfl, hD.out, hK.out⟩
theorem snap1_any (h : IsJv P w jb d m j p cap) (ok : m.Ok) (hP : ∀ i, w.heap.size ≤ i → P i) (hx : w.cell? ⟨x, 0, none⟩ = some (.pointer (some ⟨jb, 0, none⟩))) :
    Calls Try.prog 61 #[.pointer (some ⟨x, 0, none⟩)] w (StepD P w jb d j p cap (cutJ m 2 0)) := by
  have k0 : w.cell? ⟨jb, 0, none⟩ = some (.pointer (some ⟨d, 0, none⟩)) := obj_cell h.obj rfl
  have hc : Calls Try.prog 45 #[.pointer (some ⟨d, 0, none⟩), .int .i64 2, .int .i64 0] w fun e w' => e = .returned (.int .i64 (cutJ m 2 0).1) ∧ IsD (dP P jb p) w' d (cutJ m 2 0).2 ∧ Kp (dP P jb p) w w' := shorten_any _ d m 2 0 w h.disk ok (h.new hP) (by omega) (by omega)
  have cA := stepD h hc
  clear hc
  generalize cutJ m 2 0 = r at *
  replace cA := Lib.hid cA
  replace h := Lib.hid h
  go_enter Try.func61, Try.ntmps61
  go_wp2_with (first | (go_at_call 45; (with_reducible refine cA.out.mono ?_); rintro e w1 ⟨rfl, hD, hK⟩; replace hD := Lib.hid hD; replace hK := Lib.hid hK))
  go_ret
  exact ⟨rfl, hD.out, hK.out⟩
end
end Go.Proofs.Ytidofjjghbhaaaa
namespace Go.Proofs.Ytidofjjghbhaaaa
open Go.RowKit
set_option linter.unusedVariables false

/-- append's answer lies in its own block, or in a new one -/
theorem append_where {P : Program} (w : World) (base : Nat) (t ty e : TypeId) (i : TypeInfo) (z : Value) (size bytes : Nat) (ht : P.underlying t = some (.slice e)) (hi : P.info? e = some i) (hz : i.zero = some z)
    (hsize : i.size = size) (hby : i.bytes = bytes) (hzs : z.cells.size = size) (hsz : 0 < size) (v : Value) (n : Nat) (xs : List Value) (hown : w.ownsRow base e size v n xs)
    (a : Addr) (m c : Nat) (news : List Value) (hl : news.length = m * size) (hnews : ∀ j u, news[j]? = some u → w.cell? (a.add j) = some u) (h1 : ∀ u ∈ news, u.oneCell' = true)
    (h63 : n + m ≤ maxLen) (hbytes : (n + m) * bytes ≤ 140737488355328) (v' : Value) (w' : World) (hr0 : (Builtin.append_ #[t, t] ty #[v, .slice (some a) m c]).run P w = .ok v' w') :
    ∀ g, v'.ownBlock = some g → v.ownBlock = some g ∨ w.heap.size ≤ g := by
  subst hsize
  subst hby
  have hsmall : n + m ≤ 9223372036854775807 := by simp only [maxLen] at h63; omega
  intro k hk
  rcases hown.2 with ⟨rfl, rfl⟩ | ⟨g, cap, cur, rfl, hbg, hg, hnc, hcm, hcs, htake⟩
  · have hx : xs = [] := List.eq_nil_of_length_eq_zero (by simpa using hown.1)
    subst hx
    obtain ⟨v2, w2, hr2, ho2, _⟩ := run_append_own (P := P) w w.heap.size t ty e i z i.size i.bytes ht hi hz rfl rfl hzs hsz (.slice none 0 0) 0 [] (World.ownsRow_nil w _ e i.size) a m c news hl hnews h1 h63 hbytes (Nat.le_refl _)
    rw [hr0] at hr2
    injection hr2 with e1 e2
    subst e1; subst e2
    exact .inr (World.ownsRow.lt ho2 k hk).1
  · by_cases hroom : n + m ≤ cap
    · have hfit : n * i.size + news.length ≤ cur.size := by rw [hl, hcs, ← Nat.add_mul]; exact Nat.mul_le_mul_right _ hroom
      have hr := run_append_room (P := P) w t ty e i ht hi g n cap cur hg a m c news hl hnews h1 hroom hfit
      rw [hr0] at hr
      injection hr with e1 e2
      subst e1
      exact .inl hk
    · have holds : ∀ j u, xs[j]? = some u → w.cell? ((⟨g, 0, none⟩ : Addr).add j) = some u := hown.cells (g := g) rfl
      have hr := run_append_grow (P := P) w t ty e i z ht hi hz ⟨g, 0, none⟩ n cap xs hown.1 holds a m c news hl hnews (by omega) (by omega) (growslice_fits (by omega) hbytes)
      rw [hr0] at hr
      injection hr with e1 e2
      subst e1
      simp [Value.ownBlock] at hk
      exact .inr (by omega)
theorem appS_where (w : World) (B : Nat) (v : Value) (l : List (List UInt8)) (hown : Own B w v l) (a : Addr) (cap : Nat) (s : ByteArray) (hc : w.cell? a = some (.string s)) (hsp : a.spot = none) (hn : l.length ≤ 33554432) (v' : Value) (w' : World)
    (hr : (Builtin.append_ #[52, 52] 52 #[v, .slice (some a) 1 cap]).run Try.prog w = .ok v' w') : ∀ g, v'.ownBlock = some g → v.ownBlock = some g ∨ w.heap.size ≤ g := by
  obtain ⟨i0, hi, hz0, hz1, hz2⟩ := info_parts Try.info9
  refine append_where (P := Try.prog) w B 52 52 9 i0 (.string ⟨#[]⟩) 1 16 Try.underlying52 hi hz0 hz1 hz2 rfl (by decide) v l.length (l.map sv) hown a 1 cap [.string s] rfl (fun j u hu => ?_) (fun u hu => ?_) (by unfold maxLen; omega) (by omega) v' w' hr
  · cases j with
    | zero =>
      simp at hu
      subst hu
      have : a.add 0 = a := by
        unfold Addr.add
        rw [if_pos rfl]
      rw [this]; exact hc
    | succ j => simp at hu
  · simp at hu; subst hu; rfl

section
variable {P : Nat → Prop} {w : World} {jb d x y : Nat} {m : DM} {j : JM} {p : Option Addr} {cap : Nat}
set_option maxHeartbeats 4000000
set_option maxRecDepth 100000
/-- behind other records -/
theorem IsJv.recs {w' : World} {v : Value} {rs : List (List UInt8)} (h : IsJv P w jb d m j p cap) (hP : ∀ i, w.heap.size ≤ i → P i) (hK : Kp (fun i => ∃ a, p = some a ∧ i = a.block) w w') (hO : Own 0 w' v rs) (hv : ∀ g, v.ownBlock = some g → (∃ a, p = some a ∧ g = a.block) ∨ w.heap.size ≤ g) :
    IsJ P (w'.setCell ⟨jb, 3, none⟩ v) jb d m { j with recs := rs } := by
  obtain ⟨p', cap', rfl, _⟩ := hO.row
  have hjr : ¬ ∃ a, p = some a ∧ jb = a.block := fun ⟨a, ha, e⟩ => (h.rowP a ha).2.1 e.symm
  have hj := (hK.block jb (obj_lt h.obj) hjr).trans h.obj
  have hpo : ∀ a, p' = some a → (Value.slice p' rs.length cap').ownBlock = some a.block ∧ a.block < w'.heap.size := fun a ha => hO.addr ha
  have hs := hK.size
  have hnj : ∀ a, p' = some a → a.block ≠ jb := fun a ha e => by
    rcases hv a.block (hpo a ha).1 with ⟨b, hb, e2⟩ | h1
    · exact (h.rowP b hb).2.1 (e2.symm.trans e)
    · have := obj_lt h.obj; omega
  refine ⟨p', cap', ?_, obj_set hj 3 _, ?_, fun a ha => ⟨?_, hnj a ha, by simpa using (hpo a ha).2⟩, h.pj⟩
  · have hD : IsD (fun i => dP P jb p i ∧ i < w.heap.size) w d m := h.disk.weak fun i hi hp => ⟨hp, hi⟩
    have hD2 := hD.kept hK (fun i _ hp e => by obtain ⟨a, ha, e⟩ := e; exact hp.1.2.2 a ha e)
    have hD3 := hD2.kept (F := (· = jb)) (kp_set (w := w') (b := jb) (i := 3) (v := .slice p' rs.length cap')) (fun i _ hp e => hp.1.2.1 e)
    refine hD3.weak fun i _ hp => ⟨hp.1.1, hp.1.2.1, fun a ha e => ?_⟩
    rcases hv a.block (hpo a ha).1 with ⟨b, hb, e2⟩ | h1
    · exact hp.1.2.2 b hb (e.trans e2)
    · omega
  · refine hO.block fun g hg => ?_
    obtain ⟨a, ha, rfl⟩ := hO.own hg
    exact obj_other _ (hnj a ha)
  · rcases hv a.block (hpo a ha).1 with ⟨b, hb, e2⟩ | h1
    · rw [e2]; exact (h.rowP b hb).1
    · exact hP _ h1
/-- broken, or not -/
theorem IsJv.break (h : IsJv P w jb d m j p cap) (b : Bool) : IsJv P (w.setCell ⟨jb, 4, none⟩ (.bool b)) jb d m { j with broken := b } p cap :=
  ⟨h.disk.kept (F := (· = jb)) kp_set (fun i _ hp e => hp.2.1 e), obj_set h.obj 4 _, h.row.block fun g hg => by obtain ⟨a, ha, rfl⟩ := h.row.own hg; exact obj_other _ (h.rowP a ha).2.1,
    fun a ha => ⟨(h.rowP a ha).1, (h.rowP a ha).2.1, by simpa using (h.rowP a ha).2.2⟩, h.pj⟩
theorem app3_any (s : ByteArray) (h : IsJv P w jb d m j p cap) (hP : ∀ i, w.heap.size ≤ i → P i) (hx : w.cell? ⟨x, 0, none⟩ = some (.pointer (some ⟨jb, 0, none⟩))) (hy : w.cell? ⟨y, 0, none⟩ = some (.string s)) (hxP : ¬ P x) (hyP : ¬ P y) (hrl : j.recs.length < 33000000) :
    Calls Try.prog 57 #[.pointer (some ⟨x, 0, none⟩), .pointer (some ⟨y, 0, none⟩)] w fun e w' => e = .returned (.int .i64 0) ∧ IsJ P w' jb d m { j with recs := j.recs ++ [bl s] } ∧ Kp P w w' := by
  have hjl := obj_lt h.obj
  have k3 : w.cell? ⟨jb, 3, none⟩ = some (.slice p j.recs.length cap) := obj_cell h.obj rfl
  have hxl := World.block_lt_of_cell? w _ hx
  have hyl := World.block_lt_of_cell? w _ hy
  have hOW : Own 0 (w.drew.alloc (.cells #[.string s] 9)) (.slice p j.recs.length cap) j.recs := Own.alloc (w := w.drew) h.row _
  obtain ⟨v6, w6, hrun6, hO7, hG7⟩ := appS_run _ _ _ _ hOW (Nat.zero_le _) (some ⟨w.drew.heap.size, 0, none⟩) 1 1 [bl s] (srow_one w.drew s) (by omega)
  have hpb : ∀ g, (Value.slice p j.recs.length cap).ownBlock = some g → ∃ a, p = some a ∧ g = a.block := fun g hg => by obtain ⟨a, ha, e⟩ := h.row.own hg; exact ⟨a, ha, e.symm⟩
  have hK7 : Kp (fun i => ∃ a, p = some a ∧ i = a.block) w w6 := ((Kp.refl _ w).drew.alloc _).grown hG7 (fun k hk => .inl (hpb k hk))
  have hv6 : ∀ g, v6.ownBlock = some g → (∃ a, p = some a ∧ g = a.block) ∨ w.heap.size ≤ g := fun g hg => by
    have hnc : (w.drew.alloc (.cells #[.string s] 9)).cell? ⟨w.drew.heap.size, 0, none⟩ = some (.string s) := by
      rw [cell_of_row _ w.drew.heap.size 0 _ 9 (0, 0) (heap_alloc_new w.drew _)]; rfl
    rcases appS_where _ _ _ _ hOW _ 1 s hnc rfl (by omega) v6 w6 hrun6 g hg with h1 | h1
    · exact .inl (hpb g h1)
    · refine .inr ?_
      have : w.heap.size ≤ (w.drew.alloc (.cells #[.string s] 9)).heap.size := by simp
      omega
  have hfin := IsJv.recs h hP hK7 hO7 hv6
  have hjr : ¬ ∃ a, p = some a ∧ jb = a.block := fun ⟨a, ha, e⟩ => (h.rowP a ha).2.1 e.symm
  have hj7 := (hK7.block jb hjl hjr).trans h.obj
  have c6 : w6.cell? ⟨jb, 3, none⟩ = some (.slice p j.recs.length cap) := obj_cell hj7 rfl
  have z6 := obj_free hj7
  have k3a : ∀ o, (w.drew.alloc o).cell? ⟨jb, 3, none⟩ = some (.slice p j.recs.length cap) := fun o => by rw [World.cell?_alloc_lt _ _ _ (by exact hjl)]; exact k3
  have kxa : ∀ o, (w.drew.alloc o).cell? ⟨x, 0, none⟩ = some (.pointer (some ⟨jb, 0, none⟩)) := fun o => by rw [World.cell?_alloc_lt _ _ _ (by exact hxl)]; exact hx
  have kya : ∀ o, (w.drew.alloc o).cell? ⟨y, 0, none⟩ = some (.string s) := fun o => by rw [World.cell?_alloc_lt _ _ _ (by exact hyl)]; exact hy
  have hnr : ∀ i, ¬ P i → ¬ ∃ a, p = some a ∧ i = a.block := fun i hi ⟨a, ha, e⟩ => hi (e ▸ (h.rowP a ha).1)
  have kx6 := hK7.cell hx (hnr x hxP)
  have ky6 := hK7.cell hy (hnr y hyP)
  obtain ⟨p6, cap6, rfl, hrow6⟩ := hO7.row
  have hkp : Kp P w (w6.setCell ⟨jb, 3, none⟩ (.slice p6 (j.recs ++ [bl s]).length cap6)) := (hK7.mono fun i _ ⟨a, ha, e⟩ => e ▸ (h.rowP a ha).1).setCell (.inl h.pj) _
  replace hfin := Lib.hid hfin
  replace hkp := Lib.hid hkp
  generalize (j.recs ++ [bl s]).length = n6 at *
  replace hrun6 := Lib.hid hrun6
  replace hj7 := Lib.hid hj7
  replace hO7 := Lib.hid hO7
  replace hrow6 := Lib.hid hrow6
  replace hOW := Lib.hid hOW
  replace hK7 := Lib.hid hK7
  replace hG7 := Lib.hid hG7
  replace hv6 := Lib.hid hv6
  replace hpb := Lib.hid hpb
  replace hnr := Lib.hid hnr
  replace hjr := Lib.hid hjr
  replace h := Lib.hid h
  go_enter Try.func57, Try.ntmps57
  go_wp2_with fail
  go_region_law (first | (refine step_appJ rfl _ _ _ _ rfl _ _ _ _ rfl rfl hrun6.out ?_))
  all_goals
    go_wp2_with fail
    go_ret
    exact ⟨rfl, hfin.out, hkp.out⟩
end
end Go.Proofs.Ytidofjjghbhaaaa
namespace Go.Proofs.Ytidofjjghbhaaaa
open Go.RowKit
set_option linter.unusedVariables false

/-- the answers of a disk's calls -/
theorem syn_ans (m : DM) (f : Int) : (m.syn f).1 = 0 ∨ (m.syn f).1 = 1 ∨ (m.syn f).1 = 9 := by
  unfold DM.syn; split
  · split <;> simp
  · simp
theorem cut_ans (m : DM) (f n : Int) : (m.cut f n).1 = 0 ∨ (m.cut f n).1 = 1 ∨ (m.cut f n).1 = 9 := by
  unfold DM.cut; split
  · split <;> simp
  · simp
theorem mov_ans (m : DM) (f t : Int) : (m.mov f t).1 = 0 ∨ (m.mov f t).1 = 1 ∨ (m.mov f t).1 = 9 := by
  unfold DM.mov; split
  · split <;> simp
  · simp
theorem cutJ_ans (m : DM) (f n : Nat) : (cutJ m f n).1 = 0 ∨ (cutJ m f n).1 = 1 ∨ (cutJ m f n).1 = 9 := by
  unfold cutJ; split
  · simp
  · exact cut_ans _ _ _
theorem bad_of {x : Int} (h : x = 0 ∨ x = 1 ∨ x = 9) (h0 : x ≠ 0) : bad x = true := by
  rcases h with h | h | h
  · exact absurd h h0
  · subst h; rfl
  · subst h; rfl
theorem JM.same {j : JM} {b : Bool} (h : j.broken = b) : { j with broken := b } = j := by subst h; rfl

/-- the blocks of a journal while a call goes on: its own, and what is made from size S on -/
def chP (P : Nat → Prop) (w w4 : World) : Nat → Prop := fun i => P i ∧ (i < w.heap.size ∨ w4.heap.size ≤ i)
/-- what a call of a journal's answers behind its steps -/
def chT (P : Nat → Prop) (w w4 : World) (jb d : Nat) (r : Int × DM × JM) (x : Int) (w' : World) : Prop :=
  ∃ m' j', IsJ (chP P w w4) w' jb d m' j' ∧ Kp (chP P w w4) w4 w' ∧ r = (x, m', { j' with broken := bad x })

set_option maxHeartbeats 4000000 in
set_option maxRecDepth 100000 in
/-- Append, whatever its steps are -/
theorem app_try (P : Nat → Prop) (jb d : Nat) (m : DM) (j : JM) (s : ByteArray) (p : Option Addr) (cap : Nat) (w : World) (h : IsJv P w jb d m j p cap) (hP : ∀ i, w.heap.size ≤ i → P i) (hs : s.size ≤ 40000) (hl : j.last < 9223372036854000000)
    (hno : j.may (bl s) ≠ 0 → appJ m j (bl s) = (j.may (bl s), m, j))
    (hyes : j.may (bl s) = 0 → ∀ b0 b1 b3 B w4, w.heap.size ≤ b0 → w.heap.size ≤ b1 → w.heap.size ≤ b3 → w.heap.size ≤ B → b0 < w4.heap.size → b1 < w4.heap.size → b3 < w4.heap.size → B < w4.heap.size → Below w.heap.size w w4 → w4.cell? ⟨b0, 0, none⟩ = some (.pointer (some ⟨jb, 0, none⟩)) → w4.cell? ⟨b1, 0, none⟩ = some (.string s) →
      w4.cell? ⟨b3, 0, none⟩ = some (sv (frame (eight (j.last + 1) ++ bl s))) →
      w4.heap[B]? = some (.cells #[.func (.func 55) #[] #[.pointer (some ⟨b0, 0, none⟩), .pointer (some ⟨b3, 0, none⟩)], .func (.func 56) #[] #[.pointer (some ⟨b0, 0, none⟩)], .func (.func 57) #[] #[.pointer (some ⟨b0, 0, none⟩), .pointer (some ⟨b1, 0, none⟩)]] 76 (0, 0)) →
      Calls Try.prog 40 #[.slice (some ⟨B, 0, none⟩) 3 3] w4 fun e w' => ∃ x, e = .returned (.int .i64 x) ∧ chT P w w4 jb d (appJ m j (bl s)) x w') :
    Calls Try.prog 21 #[.pointer (some ⟨jb, 0, none⟩), .string s] w fun e w' => e = .returned (.int .i64 (appJ m j (bl s)).1) ∧ IsJ P w' jb d (appJ m j (bl s)).2.1 (appJ m j (bl s)).2.2 ∧ Kp P w w' := by
  have hjl := obj_lt h.obj
  obtain ⟨wb, hwb⟩ : ∃ wb, (w.alloc (.cells #[.pointer (some ⟨jb, 0, none⟩)] 35)).alloc (.cells #[.string s] 9) = wb := ⟨_, rfl⟩
  have hBb : Below w.heap.size w wb := by rw [← hwb]; exact ((Below.refl _ _).alloc (Nat.le_refl _) _).alloc (by simp) _
  have hszb : wb.heap.size = w.heap.size + 1 + 1 := by rw [← hwb]; simp
  have hb0 : wb.cell? ⟨w.heap.size, 0, none⟩ = some (.pointer (some ⟨jb, 0, none⟩)) := by rw [← hwb]; exact obj_cell (heap_alloc2_old w _ _) rfl
  have hb1 : wb.cell? ⟨w.heap.size + 1, 0, none⟩ = some (.string s) := by rw [← hwb]; exact obj_cell (heap_alloc2_new w _ _) rfl
  have hJb := h.kept (Kp.of_below (F := fun _ => False) hBb) (fun _ _ _ h => h)
  have cL := fun w' (hJ : IsJ P w' jb d m j) => last_any (w := w') hJ hl
  have hJd : IsJ P wb.drew jb d m j := ⟨p, cap, hJb.drewN 1⟩
  have hJa : ∀ o, IsJ P (wb.alloc o).drew jb d m j := fun o => ⟨p, cap, (hJb.kept ((Kp.refl (fun _ => False) wb).alloc o) (fun _ _ _ h => h)).drewN 1⟩
  have hsum : IntKind.i64.wrap ((j.last : Int) + 1) = ((j.last + 1 : Nat) : Int) := by rw [IntKind.wrap_i64]; omega
  have hbl := World.block_lt_of_cell? wb _ hb1
  have hb1a : ∀ o, (wb.alloc o).cell? ⟨w.heap.size + 1, 0, none⟩ = some (.string s) := fun o => by rw [World.cell?_alloc_lt _ _ _ hbl]; exact hb1
  have hb0a : ∀ o, (wb.alloc o).cell? ⟨w.heap.size, 0, none⟩ = some (.pointer (some ⟨jb, 0, none⟩)) := fun o => by rw [World.cell?_alloc_lt _ _ _ (World.block_lt_of_cell? wb _ hb0)]; exact hb0
  replace hno := Lib.hid hno
  replace hyes := Lib.hid hyes
  replace h := Lib.hid h
  replace hJb := Lib.hid hJb
  replace hwb := Lib.hid hwb
  replace hBb := Lib.hid hBb
  replace cL := Lib.hid cL
  replace hJd := Lib.hid hJd
  replace hJa := Lib.hid hJa
  replace hszb := Lib.hid hszb
  generalize hN : j.last + 1 = N at *
  replace hN := Lib.hid hN
  go_enter Try.func21, Try.ntmps21
  go_upto_region 1 with (fail)
  change Code.wp _ _ _ _ ((w.alloc (.cells #[.pointer (some ⟨jb, 0, none⟩)] 35)).alloc (.cells #[.string s] 9))
  rw [hwb.out]
  have hAl : ∀ nl, ((wb.alloc (.cells #[.int .i64 0, .string ⟨#[]⟩] 78)).drew.drewN nl).heap[wb.heap.size]? = some (.cells #[.int .i64 0, .string ⟨#[]⟩] 78 (0, 0)) ∧ Below wb.heap.size wb ((wb.alloc (.cells #[.int .i64 0, .string ⟨#[]⟩] 78)).drew.drewN nl) :=
    fun nl => ⟨heap_alloc_new wb _, below_dn (((Below.refl _ wb).alloc (Nat.le_refl _) _).drew) nl⟩
  have hDr : ∀ nl, Below wb.heap.size wb (wb.drew.drewN nl) := fun nl => below_dn (Below.refl _ wb).drew nl
  have hbl0 := World.block_lt_of_cell? wb _ hb0
  replace hAl := Lib.hid hAl
  replace hDr := Lib.hid hDr
  go_cut [5] (fun c wx => ∃ b2, c = .pointer (some ⟨b2, 0, none⟩) ∧ Hid (Below wb.heap.size wb wx ∧ wb.heap.size ≤ b2 ∧ wx.heap[b2]? = some (.cells #[.int .i64 (N : Nat), .string s] 78 (0, 0))))
  case first =>
    go_region_with (first
      | (go_at_call 26; first
          | ((with_reducible refine (cL.out _ hJd.out).mono ?_); rintro e w1 ⟨rfl, nl, hw⟩; have hB1 : Below wb.heap.size wb w1 := (by rw [hw]; exact hDr.out nl); clear hw; have kb1 := (hB1.cell (p := ⟨w.heap.size + 1, 0, none⟩) hbl).trans hb1; have kb1a : ∀ o, (w1.alloc o).cell? ⟨w.heap.size + 1, 0, none⟩ = some (.string s) := (fun o => (World.cell?_alloc_lt _ _ _ (World.block_lt_of_cell? w1 _ kb1)).trans kb1); replace hB1 := Lib.hid hB1)
          | ((with_reducible refine (cL.out _ (hJa.out _)).mono ?_); rintro e w1 ⟨rfl, nl, hw⟩; have hB1 : Below wb.heap.size wb w1 := (by rw [hw]; exact (hAl.out nl).2); have hx1 : w1.heap[wb.heap.size]? = some (.cells #[.int .i64 0, .string ⟨#[]⟩] 78 (0, 0)) := (by rw [hw]; exact (hAl.out nl).1); clear hw; have x0 : w1.cell? ⟨wb.heap.size, 0, none⟩ = some (.int .i64 0) := obj_cell hx1 rfl; have x1 : w1.cell? ⟨wb.heap.size, 1, none⟩ = some (.string ⟨#[]⟩) := obj_cell hx1 rfl; have xz := obj_free hx1; have kb1 := (hB1.cell (p := ⟨w.heap.size + 1, 0, none⟩) hbl).trans hb1; replace hx1 := Lib.hid hx1; replace hB1 := Lib.hid hB1)))
    all_goals
      go_wp2_with fail
      go_meet
      case rel =>
        first
          | exact ⟨wb.heap.size, rfl, Lib.hid ⟨(hB1.out.setCell (Nat.le_refl _) _).setCell (Nat.le_refl _) _, Nat.le_refl _, obj_set (obj_set hx1.out 0 _) 1 _⟩⟩
          | exact ⟨w1.heap.size, rfl, Lib.hid ⟨hB1.out.alloc hB1.out.size _, hB1.out.size, heap_alloc_new w1 _⟩⟩
  case rest =>
    obtain ⟨b2, rfl, hcw⟩ := hcut
    obtain ⟨hBc, hb2, hc2⟩ := hcw.out
    have kb0 := (hBc.cell (p := ⟨w.heap.size, 0, none⟩) hbl0).trans hb0
    have kb1 := (hBc.cell (p := ⟨w.heap.size + 1, 0, none⟩) hbl).trans hb1
    have c20 : wc.cell? ⟨b2, 0, none⟩ = some (.int .i64 (N : Nat)) := obj_cell hc2 rfl
    have c21 : wc.cell? ⟨b2, 1, none⟩ = some (.string s) := obj_cell hc2 rfl
    have hBw : Below w.heap.size w wc := hBb.out.trans (hBc.mono hBb.out.size)
    have hJc := h.out.kept (Kp.of_below (F := fun _ => False) hBw) (fun _ _ _ h => h)
    have hlen : (bl s).length ≤ 40000 := by rw [bl_length]; exact hs
    have cF := framed_any jb N (bl s) j _ wc hJc.obj rfl (by rw [← hN.out]; omega) hlen
    rw [sv_bl] at cF
    have hbl0c := World.block_lt_of_cell? wc _ kb0
    have hbl1c := World.block_lt_of_cell? wc _ kb1
    have hwcs := hBw.size
    replace hBc := Lib.hid hBc
    replace hc2 := Lib.hid hc2
    replace hBw := Lib.hid hBw
    replace hJc := Lib.hid hJc
    replace hb2 := Lib.hid hb2
    replace hlen := Lib.hid hlen
    clear hb1a hb0a hcw hAl hDr hJa hJd cL hsum hb0 hb1
    by_cases hm : j.may (bl s) = 0
    · have hfr : j.frm N (bl s) = frame (eight N ++ bl s) := if_pos hm
      rw [hm, hfr] at cF
      have hchange : ∀ b3 B w4, w.heap.size ≤ b3 → w.heap.size ≤ B → b3 < w4.heap.size → B < w4.heap.size → Below wc.heap.size wc w4 →
          w4.cell? ⟨b3, 0, none⟩ = some (sv (frame (eight N ++ bl s))) →
          w4.heap[B]? = some (.cells #[.func (.func 55) #[] #[.pointer (some ⟨w.heap.size, 0, none⟩), .pointer (some ⟨b3, 0, none⟩)], .func (.func 56) #[] #[.pointer (some ⟨w.heap.size, 0, none⟩)], .func (.func 57) #[] #[.pointer (some ⟨w.heap.size, 0, none⟩), .pointer (some ⟨w.heap.size + 1, 0, none⟩)]] 76 (0, 0)) →
          Calls Try.prog 54 #[.pointer (some ⟨jb, 0, none⟩), .slice (some ⟨B, 0, none⟩) 3 3] w4 fun e w' => e = .returned (.int .i64 (appJ m j (bl s)).1) ∧ IsJ P w' jb d (appJ m j (bl s)).2.1 (appJ m j (bl s)).2.2 ∧ Kp P w w' := by
        intro b3 B w4 g1 g2 g3 g4 hB4 hfr4 hrow4
        have hB04 : Below w.heap.size w w4 := hBw.out.trans (hB4.mono hwcs)
        have hsz4 := hB4.size
        have hk0 := (hB4.cell (p := ⟨w.heap.size, 0, none⟩) hbl0c).trans kb0
        have hk1 := (hB4.cell (p := ⟨w.heap.size + 1, 0, none⟩) hbl1c).trans kb1
        have hT := hyes.out hm w.heap.size (w.heap.size + 1) b3 B w4 (Nat.le_refl _) (by omega) g1 g2 (World.block_lt_of_cell? w4 _ hk0) (World.block_lt_of_cell? w4 _ hk1) g3 g4 hB04 hk0 hk1 hfr4 hrow4
        refine (change_any jb _ w4 (chT P w w4 jb d (appJ m j (bl s))) hT ?_).mono ?_
        · rintro x w' ⟨m', j', ⟨p', cap', hJ⟩, _, _⟩
          exact ⟨_, obj_cell hJ.obj rfl, obj_free hJ.obj 4⟩
        · rintro e w' ⟨x, w1, rfl, ⟨m', j', ⟨p', cap', hJ⟩, hK, hr⟩, rfl⟩
          rw [hr]
          refine ⟨rfl, IsJ.weak ⟨p', cap', hJ.break (bad x)⟩ (fun i _ hp => hp.1), ?_⟩
          refine ((Kp.of_below (F := P) hB04).then hK fun i hi e => e.1).setCell (.inl ?_) _
          exact hJ.pj.1
      replace hchange := Lib.hid hchange
      replace hno := Lib.hid hno
      unfold sv at cF hchange
      generalize (⟨(frame (eight N ++ bl s)).toArray⟩ : ByteArray) = Fr at *
      replace cF := Lib.hid cF
      go_upto_region 5 with (first | (go_at_call 53; (with_reducible refine cF.out.mono ?_); rintro e w2 ⟨rfl, hB2⟩; have kc0 := (hB2.cell (p := ⟨w.heap.size, 0, none⟩) hbl0c).trans kb0; have kc0a : ∀ o, (w2.alloc o).cell? ⟨w.heap.size, 0, none⟩ = some (.pointer (some ⟨jb, 0, none⟩)) := (fun o => (World.cell?_alloc_lt _ _ _ (World.block_lt_of_cell? w2 _ kc0)).trans kc0); replace hB2 := Lib.hid hB2))
      have hB4 : Below wc.heap.size wc ((w2.alloc (.cells #[.string Fr] 9)).alloc (.cells #[.func (.func 55) #[] #[.pointer (some ⟨w.heap.size, 0, none⟩), .pointer (some ⟨w2.heap.size, 0, none⟩)], .func (.func 56) #[] #[.pointer (some ⟨w.heap.size, 0, none⟩)], .func (.func 57) #[] #[.pointer (some ⟨w.heap.size, 0, none⟩), .pointer (some ⟨w.heap.size + 1, 0, none⟩)]] 76)) :=
        (hB2.out.alloc hB2.out.size _).alloc (by have := hB2.out.size; simp; omega) _
      have hC := hchange.out w2.heap.size (w2.heap.size + 1) _ (Nat.le_trans hwcs hB2.out.size) (Nat.le_succ_of_le (Nat.le_trans hwcs hB2.out.size)) (by simp; omega) (by simp) hB4 (obj_cell (heap_alloc2_old w2 _ _) rfl) (heap_alloc2_new w2 _ _)
      replace hC := Lib.hid hC
      replace hB4 := Lib.hid hB4
      go_wp2_with (first | (go_at_call 54; (refine hC.out.mono ?_); rintro e w5 ⟨rfl, hJ5, hK5⟩; replace hJ5 := Lib.hid hJ5; replace hK5 := Lib.hid hK5))
      go_ret
      exact ⟨rfl, hJ5.out, hK5.out⟩
    · have he := hno.out hm
      generalize j.may (bl s) = v at *
      have hv : (v != 0) = true := by simpa using hm
      unfold sv at cF
      replace cF := Lib.hid cF
      replace he := Lib.hid he
      replace hno := Lib.hid hno
      go_wp2_with (first | (go_at_call 53; (with_reducible refine cF.out.mono ?_); rintro e w2 ⟨rfl, hB2⟩; replace hB2 := Lib.hid hB2))
      go_ret
      have hB3 := (hBw.out.trans (hB2.out.mono hwcs)).alloc (Nat.le_trans hwcs hB2.out.size) (.cells #[.string ⟨(j.frm N (bl s)).toArray⟩] 9)
      rw [he.out]
      exact ⟨rfl, ⟨p, cap, h.out.kept (Kp.of_below (F := fun _ => False) hB3) (fun _ _ _ h => h)⟩, Kp.of_below hB3⟩
end Go.Proofs.Ytidofjjghbhaaaa
namespace Go.Proofs.Ytidofjjghbhaaaa
open Go.RowKit
set_option linter.unusedVariables false

theorem chP_new {P : Nat → Prop} {w w4 w' : World} (hP : ∀ i, w.heap.size ≤ i → P i) (hs : w.heap.size ≤ w4.heap.size) (h : w4.heap.size ≤ w'.heap.size) : ∀ i, w'.heap.size ≤ i → chP P w w4 i := fun i hi => ⟨hP i (by omega), .inr (by omega)⟩
theorem chP_not {P : Nat → Prop} {w w4 : World} {i : Nat} (h1 : w.heap.size ≤ i) (h2 : i < w4.heap.size) : ¬ chP P w w4 i := fun h => by have := h.2; omega
/-- appending, where it may be -/
theorem appJ_may {m : DM} {j : JM} {b : List UInt8} (h : j.may b = 0) : j.broken = false ∧ ¬ 65528 < b.length := by
  unfold JM.may at h
  by_cases h1 : 65528 < b.length
  · rw [if_pos h1] at h; omega
  · rw [if_neg h1] at h
    refine ⟨?_, h1⟩
    cases hb : j.broken with
    | false => rfl
    | true => rw [hb] at h; simp at h
def appR (P : Nat → Prop) (w w4 : World) (jb d : Nat) (m : DM) (j : JM) (b : List UInt8) (p : Option Addr) (cap : Nat) : Nat → World → Prop
  | 0, w' => IsJv (chP P w w4) w' jb d m j p cap ∧ Kp (chP P w w4) w4 w'
  | 1, w' => (m.app 0 (frame (eight (j.last + 1) ++ b))).1 = 0 ∧ IsJv (chP P w w4) w' jb d (m.app 0 (frame (eight (j.last + 1) ++ b))).2 j p cap ∧ Kp (chP P w w4) w4 w'
  | 2, w' => (m.app 0 (frame (eight (j.last + 1) ++ b))).1 = 0 ∧ ((m.app 0 (frame (eight (j.last + 1) ++ b))).2.syn 0).1 = 0 ∧ IsJv (chP P w w4) w' jb d ((m.app 0 (frame (eight (j.last + 1) ++ b))).2.syn 0).2 j p cap ∧ Kp (chP P w w4) w4 w'
  | _, w' => (m.app 0 (frame (eight (j.last + 1) ++ b))).1 = 0 ∧ ((m.app 0 (frame (eight (j.last + 1) ++ b))).2.syn 0).1 = 0 ∧ IsJ (chP P w w4) w' jb d ((m.app 0 (frame (eight (j.last + 1) ++ b))).2.syn 0).2 { j with recs := j.recs ++ [b] } ∧ Kp (chP P w w4) w4 w'
theorem appR_kp {P : Nat → Prop} {w w4 w' : World} {jb d : Nat} {m : DM} {j : JM} {b : List UInt8} {p : Option Addr} {cap : Nat} : ∀ {i : Nat}, appR P w w4 jb d m j b p cap i w' → Kp (chP P w w4) w4 w'
  | 0, h => h.2
  | 1, h => h.2.2
  | 2, h => h.2.2.2
  | _ + 3, h => h.2.2.2

theorem appN_any (P : Nat → Prop) (jb d : Nat) (m : DM) (j : JM) (s : ByteArray) (w : World) (h : IsJ P w jb d m j) (ok : m.Ok) (hP : ∀ i, w.heap.size ≤ i → P i) (hs : s.size ≤ 40000) (hl : j.last < 9223372036854000000) (hrl : j.recs.length < 33000000) :
    Calls Try.prog 21 #[.pointer (some ⟨jb, 0, none⟩), .string s] w fun e w' => e = .returned (.int .i64 (appJ m j (bl s)).1) ∧ IsJ P w' jb d (appJ m j (bl s)).2.1 (appJ m j (bl s)).2.2 ∧ Kp P w w' := by
  obtain ⟨p, cap, h⟩ := h
  refine app_try P jb d m j s p cap w h hP hs hl (fun hm => (may_bad hm).1) ?_
  intro hm b0 b1 b3 B w4 l0 l1 l3 lB s0 s1 s3 sB hB4 k0 k1 k3 hrow
  obtain ⟨hbr, hsz⟩ := appJ_may (m := m) hm
  have hsz4 := hB4.size
  have hJ4 : IsJv (chP P w w4) w4 jb d m j p cap := (h.weak (Q := fun i => P i ∧ i < w.heap.size) fun i hi hp => ⟨hp, hi⟩).kept (Kp.of_below (F := fun _ => False) hB4) (fun _ _ _ h => h) |>.weak fun i _ hp => ⟨hp.1, .inl hp.2⟩
  have hA : appJ m j (bl s) = (if (m.app 0 (frame (eight (j.last + 1) ++ bl s))).1 = 4 then (4, (m.app 0 (frame (eight (j.last + 1) ++ bl s))).2, j) else
      if (m.app 0 (frame (eight (j.last + 1) ++ bl s))).1 = 0 then
        if ((m.app 0 (frame (eight (j.last + 1) ++ bl s))).2.syn 0).1 = 0 then (0, ((m.app 0 (frame (eight (j.last + 1) ++ bl s))).2.syn 0).2, { j with recs := j.recs ++ [bl s] })
        else (((m.app 0 (frame (eight (j.last + 1) ++ bl s))).2.syn 0).1, ((m.app 0 (frame (eight (j.last + 1) ++ bl s))).2.syn 0).2, { j with broken := true })
      else ((m.app 0 (frame (eight (j.last + 1) ++ bl s))).1, (m.app 0 (frame (eight (j.last + 1) ++ bl s))).2, { j with broken := true })) := by
    unfold appJ
    rw [if_neg hsz, hbr]
    simp only [Bool.false_eq_true, if_false]
    split
    · rfl
    · split
      · rfl
      · rfl
  have okA := ok.app 0 (frame (eight (j.last + 1) ++ bl s))
  have hFr : bl (⟨(frame (eight (j.last + 1) ++ bl s)).toArray⟩ : ByteArray) = frame (eight (j.last + 1) ++ bl s) := bl_mk _
  unfold sv at k3
  refine through_any 3 3 B (fun i => match i with | 0 => 55 | 1 => 56 | _ => 57) (fun _ => #[]) (fun i => match i with | 0 => #[.pointer (some ⟨b0, 0, none⟩), .pointer (some ⟨b3, 0, none⟩)] | 1 => #[.pointer (some ⟨b0, 0, none⟩)] | _ => #[.pointer (some ⟨b0, 0, none⟩), .pointer (some ⟨b1, 0, none⟩)])
    w4 (appR P w w4 jb d m j (bl s) p cap) (chT P w w4 jb d (appJ m j (bl s))) (by omega) ?_ ?_ ?_ ⟨hJ4, Kp.refl _ _⟩ ?_
  · intro i w' hi hR
    have hrow' := ((appR_kp hR).block B sB (chP_not lB sB)).trans hrow
    match i, hi with
    | 0, _ => exact obj_cell hrow' rfl
    | 1, _ => exact obj_cell hrow' rfl
    | 2, _ => exact obj_cell hrow' rfl
  · intro i w' hi
    match i, hi with
    | 0, _ => exact enter55 _ _
    | 1, _ => exact enter56 _ _
    | 2, _ => exact enter57 _ _
  · intro i w' hi hR
    have hK := appR_kp hR
    have c0 := hK.cell k0 (chP_not l0 s0)
    have c1 := hK.cell k1 (chP_not l1 s1)
    have c3 := hK.cell k3 (chP_not l3 s3)
    have hnew := chP_new hP hsz4 hK.size
    match i, hi, hR with
    | 0, _, hR =>
      have := app1_any _ hR.1 ok hnew c0 c3 (chP_not l0 s0) (chP_not l3 s3)
      rw [hFr] at this
      refine this.mono ?_
      rintro e w'' ⟨rfl, hJ, hK2⟩
      refine ⟨_, rfl, fun h0 => ⟨h0, hJ, hK.trans hK2⟩, fun h0 => ?_⟩
      by_cases h4 : (m.app 0 (frame (eight (j.last + 1) ++ bl s))).1 = 4
      · rw [h4]
        exact ⟨_, j, ⟨p, cap, hJ⟩, hK.trans hK2, by rw [hA, if_pos h4, JM.same (b := bad 4) hbr]⟩
      · refine ⟨_, j, ⟨p, cap, hJ⟩, hK.trans hK2, ?_⟩
        have hb : bad (m.app 0 (frame (eight (j.last + 1) ++ bl s))).1 = true := by unfold bad; simp [h0, h4]
        rw [hA, if_neg h4, if_neg h0, hb]
    | 1, _, hR =>
      refine (app2_any hR.2.1 okA hnew c0).mono ?_
      rintro e w'' ⟨rfl, hJ, hK2⟩
      refine ⟨_, rfl, fun h0 => ⟨hR.1, h0, hJ, hK.trans hK2⟩, fun h0 => ⟨_, j, ⟨p, cap, hJ⟩, hK.trans hK2, ?_⟩⟩
      rw [hA, if_neg (by rw [hR.1]; omega), if_pos hR.1, if_neg h0, bad_of (syn_ans _ _) h0]
    | 2, _, hR =>
      refine (app3_any s hR.2.2.1 hnew c0 c1 (chP_not l0 s0) (chP_not l1 s1) hrl).mono ?_
      rintro e w'' ⟨rfl, hJ, hK2⟩
      exact ⟨0, rfl, fun _ => ⟨hR.1, hR.2.1, hJ, hK.trans hK2⟩, fun h0 => absurd rfl h0⟩
  · intro w' hR
    refine ⟨_, _, hR.2.2.1, hR.2.2.2, ?_⟩
    rw [hA, if_neg (by rw [hR.1]; omega), if_pos hR.1, if_pos hR.2.1]
    have : bad 0 = j.broken := by rw [hbr]; rfl
    rw [this]
end Go.Proofs.Ytidofjjghbhaaaa
namespace Go.Proofs.Ytidofjjghbhaaaa
open Go.RowKit
set_option linter.unusedVariables false

set_option maxHeartbeats 4000000 in
set_option maxRecDepth 100000 in
theorem snap6_any {P : Nat → Prop} {w : World} {jb d x y : Nat} {m : DM} {j : JM} {p : Option Addr} {cap : Nat} (n : Nat) (t : List UInt8) (h : IsJv P w jb d m j p cap) (hx : w.cell? ⟨x, 0, none⟩ = some (.pointer (some ⟨jb, 0, none⟩))) (hy : w.cell? ⟨y, 0, none⟩ = some (.int .i64 (n : Nat)))
    (hy1 : w.cell? ⟨y, 1, none⟩ = some (sv t)) (hxj : x ≠ jb) (hyj : y ≠ jb) :
    Calls Try.prog 68 #[.pointer (some ⟨y, 0, none⟩), .pointer (some ⟨x, 0, none⟩)] w fun e w' => e = .returned (.int .i64 0) ∧ IsJ P w' jb d m ⟨t, n, [], j.broken⟩ ∧ Kp P w w' := by
  have k1 : w.cell? ⟨jb, 1, none⟩ = some (.int .i64 (j.base : Nat)) := obj_cell h.obj rfl
  have k2 : w.cell? ⟨jb, 2, none⟩ = some (sv j.text) := obj_cell h.obj rfl
  have k3 : w.cell? ⟨jb, 3, none⟩ = some (.slice p j.recs.length cap) := obj_cell h.obj rfl
  have z := obj_free h.obj
  have hfin : ∀ w', (∃ q, w' = (((w.setCell ⟨jb, 1, none⟩ (.int .i64 (n : Nat))).setCell ⟨jb, 2, none⟩ (sv t)).setCell ⟨jb, 3, none⟩ (.slice none 0 0)).drewN q) → IsJ P w' jb d m ⟨t, n, [], j.broken⟩ ∧ Kp P w w' := by
    rintro w' ⟨q, rfl⟩
    have hk : ∀ (F : Nat → Prop), F jb → Kp F w ((((w.setCell ⟨jb, 1, none⟩ (.int .i64 (n : Nat))).setCell ⟨jb, 2, none⟩ (sv t)).setCell ⟨jb, 3, none⟩ (.slice none 0 0)).drewN q) := fun F hF => ((((Kp.refl F w).setCell (.inl hF) _).setCell (.inl hF) _).setCell (.inl hF) _).drewN q
    refine ⟨⟨none, 0, ?_⟩, hk P h.pj⟩
    exact ⟨(h.disk.weak (Q := dP P jb none) fun i _ hp => ⟨hp.1, hp.2.1, fun a ha => by cases ha⟩).kept (hk (· = jb) rfl) (fun i _ hp e => hp.2.1 e), obj_set (obj_set (obj_set h.obj 1 _) 2 _) 3 _, Own.nil _ _, (fun a ha => by cases ha), h.pj⟩
  unfold sv at *
  generalize (⟨t.toArray⟩ : ByteArray) = T at *
  generalize (⟨j.text.toArray⟩ : ByteArray) = T0 at *
  generalize j.recs.length = n0 at *
  replace hfin := Lib.hid hfin
  replace h := Lib.hid h
  go_enter Try.func68, Try.ntmps68
  go_wp2_with fail
  go_region
  all_goals
    go_wp2_with fail
    go_ret
    exact ⟨rfl, hfin.out _ ⟨1, rfl⟩⟩

set_option maxHeartbeats 4000000 in
set_option maxRecDepth 100000 in
/-- Snap, whatever its steps are -/
theorem snap_try (P : Nat → Prop) (jb d : Nat) (m : DM) (j : JM) (s : ByteArray) (p : Option Addr) (cap : Nat) (w : World) (h : IsJv P w jb d m j p cap) (hP : ∀ i, w.heap.size ≤ i → P i) (hs : s.size ≤ 40000) (hl : j.last < 9223372036854000000)
    (hno : j.may (bl s) ≠ 0 → snapJ m j (bl s) = (j.may (bl s), m, j))
    (hyes : j.may (bl s) = 0 → ∀ b0 b1 b3 B w4, w.heap.size ≤ b0 → w.heap.size ≤ b1 → w.heap.size ≤ b3 → w.heap.size ≤ B → b0 < w4.heap.size → b1 < w4.heap.size → b3 < w4.heap.size → B < w4.heap.size → Below w.heap.size w w4 → w4.cell? ⟨b0, 0, none⟩ = some (.pointer (some ⟨jb, 0, none⟩)) →
      w4.cell? ⟨b1, 0, none⟩ = some (.int .i64 (j.last : Nat)) → w4.cell? ⟨b1, 1, none⟩ = some (.string s) →
      w4.cell? ⟨b3, 0, none⟩ = some (sv (frame (eight j.last ++ bl s))) →
      w4.heap[B]? = some (.cells #[.func (.func 61) #[] #[.pointer (some ⟨b0, 0, none⟩)], .func (.func 62) #[] #[.pointer (some ⟨b0, 0, none⟩), .pointer (some ⟨b3, 0, none⟩)], .func (.func 63) #[] #[.pointer (some ⟨b0, 0, none⟩)], .func (.func 64) #[] #[.pointer (some ⟨b0, 0, none⟩)],
        .func (.func 66) #[] #[.pointer (some ⟨b0, 0, none⟩)], .func (.func 68) #[] #[.pointer (some ⟨b1, 0, none⟩), .pointer (some ⟨b0, 0, none⟩)]] 76 (0, 0)) →
      Calls Try.prog 40 #[.slice (some ⟨B, 0, none⟩) 6 6] w4 fun e w' => ∃ x, e = .returned (.int .i64 x) ∧ chT P w w4 jb d (snapJ m j (bl s)) x w') :
    Calls Try.prog 23 #[.pointer (some ⟨jb, 0, none⟩), .string s] w fun e w' => e = .returned (.int .i64 (snapJ m j (bl s)).1) ∧ IsJ P w' jb d (snapJ m j (bl s)).2.1 (snapJ m j (bl s)).2.2 ∧ Kp P w w' := by
  have hjl := obj_lt h.obj
  obtain ⟨wb, hwb⟩ : ∃ wb, w.alloc (.cells #[.pointer (some ⟨jb, 0, none⟩)] 35) = wb := ⟨_, rfl⟩
  have hBb : Below w.heap.size w wb := by rw [← hwb]; exact (Below.refl _ _).alloc (Nat.le_refl _) _
  have hszb : wb.heap.size = w.heap.size + 1 := by rw [← hwb]; simp
  have hb0 : wb.cell? ⟨w.heap.size, 0, none⟩ = some (.pointer (some ⟨jb, 0, none⟩)) := by rw [← hwb]; exact obj_cell (heap_alloc_new w _) rfl
  have hJb := h.kept (Kp.of_below (F := fun _ => False) hBb) (fun _ _ _ h => h)
  have cL := last_any (w := wb) ⟨p, cap, hJb⟩ hl
  have hbl0 := World.block_lt_of_cell? wb _ hb0
  have hlen : (bl s).length ≤ 40000 := by rw [bl_length]; exact hs
  have cF := fun wc (hB : Below wb.heap.size wb wc) => framed_any jb j.last (bl s) j _ wc (hJb.kept (Kp.of_below (F := fun _ => False) hB) (fun _ _ _ h => h)).obj rfl (by omega) hlen
  rw [sv_bl] at cF
  generalize hN : j.last = N at *
  replace hN := Lib.hid hN
  replace hno := Lib.hid hno
  replace hyes := Lib.hid hyes
  replace h := Lib.hid h
  replace hJb := Lib.hid hJb
  replace hwb := Lib.hid hwb
  replace hBb := Lib.hid hBb
  replace cL := Lib.hid cL
  replace hszb := Lib.hid hszb
  replace cF := Lib.hid cF
  replace hlen := Lib.hid hlen
  go_enter Try.func23, Try.ntmps23
  go_upto_region 1 with (fail)
  change Code.wp _ _ _ _ (w.alloc (.cells #[.pointer (some ⟨jb, 0, none⟩)] 35))
  rw [hwb.out]
  go_upto_region 2 with (first | (go_at_call 26; (with_reducible refine cL.out.mono ?_); rintro e w1 ⟨rfl, nq, hw1⟩; have hB1 : Below wb.heap.size wb w1 := (by rw [hw1]; exact below_dn (Below.refl _ wb) nq); clear hw1; replace hB1 := Lib.hid hB1))
  have hBc : Below wb.heap.size wb (w1.alloc (.cells #[.int .i64 (N : Nat), .string s] 78)) := hB1.out.alloc hB1.out.size _
  have hc2 := heap_alloc_new w1 (.cells #[.int .i64 (N : Nat), .string s] 78)
  have kb0 := (hBc.cell (p := ⟨w.heap.size, 0, none⟩) hbl0).trans hb0
  generalize hwc : w1.alloc (.cells #[.int .i64 (N : Nat), .string s] 78) = wc at *
  have hb2 : wb.heap.size ≤ w1.heap.size := hB1.out.size
  generalize w1.heap.size = b2 at *
  have c20 : wc.cell? ⟨b2, 0, none⟩ = some (.int .i64 (N : Nat)) := obj_cell hc2 rfl
  have c21 : wc.cell? ⟨b2, 1, none⟩ = some (.string s) := obj_cell hc2 rfl
  have hBw : Below w.heap.size w wc := hBb.out.trans (hBc.mono hBb.out.size)
  have cFc := cF.out wc hBc
  have hbl0c := World.block_lt_of_cell? wc _ kb0
  have hbl2c := World.block_lt_of_cell? wc _ c20
  have hwcs := hBw.size
  have hszb' := hszb.out
  have hb2w : w.heap.size ≤ b2 := by omega
  replace hBc := Lib.hid hBc
  replace hc2 := Lib.hid hc2
  replace hBw := Lib.hid hBw
  replace hwc := Lib.hid hwc
  clear hb0
  by_cases hm : j.may (bl s) = 0
  · have hfr : j.frm N (bl s) = frame (eight N ++ bl s) := if_pos hm
    rw [hm, hfr] at cFc
    have hchange : ∀ b3 B w4, w.heap.size ≤ b3 → w.heap.size ≤ B → b3 < w4.heap.size → B < w4.heap.size → Below wc.heap.size wc w4 →
        w4.cell? ⟨b3, 0, none⟩ = some (sv (frame (eight N ++ bl s))) →
        w4.heap[B]? = some (.cells #[.func (.func 61) #[] #[.pointer (some ⟨w.heap.size, 0, none⟩)], .func (.func 62) #[] #[.pointer (some ⟨w.heap.size, 0, none⟩), .pointer (some ⟨b3, 0, none⟩)], .func (.func 63) #[] #[.pointer (some ⟨w.heap.size, 0, none⟩)], .func (.func 64) #[] #[.pointer (some ⟨w.heap.size, 0, none⟩)],
          .func (.func 66) #[] #[.pointer (some ⟨w.heap.size, 0, none⟩)], .func (.func 68) #[] #[.pointer (some ⟨b2, 0, none⟩), .pointer (some ⟨w.heap.size, 0, none⟩)]] 76 (0, 0)) →
        Calls Try.prog 54 #[.pointer (some ⟨jb, 0, none⟩), .slice (some ⟨B, 0, none⟩) 6 6] w4 fun e w' => e = .returned (.int .i64 (snapJ m j (bl s)).1) ∧ IsJ P w' jb d (snapJ m j (bl s)).2.1 (snapJ m j (bl s)).2.2 ∧ Kp P w w' := by
      intro b3 B w4 g1 g2 g3 g4 hB4 hfr4 hrow4
      have hB04 : Below w.heap.size w w4 := hBw.out.trans (hB4.mono hwcs)
      have hsz4 := hB4.size
      have hk0 := (hB4.cell (p := ⟨w.heap.size, 0, none⟩) hbl0c).trans kb0
      have hk20 := (hB4.cell (p := ⟨b2, 0, none⟩) hbl2c).trans c20
      have hk21 := (hB4.cell (p := ⟨b2, 1, none⟩) hbl2c).trans c21
      have hT := hyes.out hm w.heap.size b2 b3 B w4 (Nat.le_refl _) hb2w g1 g2 (World.block_lt_of_cell? w4 _ hk0) (World.block_lt_of_cell? w4 _ hk20) g3 g4 hB04 hk0 hk20 hk21 hfr4 hrow4
      refine (change_any jb _ w4 (chT P w w4 jb d (snapJ m j (bl s))) hT ?_).mono ?_
      · rintro x w' ⟨m', j', ⟨p', cap', hJ⟩, _, _⟩
        exact ⟨_, obj_cell hJ.obj rfl, obj_free hJ.obj 4⟩
      · rintro e w' ⟨x, w1, rfl, ⟨m', j', ⟨p', cap', hJ⟩, hK, hr⟩, rfl⟩
        rw [hr]
        refine ⟨rfl, IsJ.weak ⟨p', cap', hJ.break (bad x)⟩ (fun i _ hp => hp.1), ?_⟩
        refine ((Kp.of_below (F := P) hB04).then hK fun i hi e => e.1).setCell (.inl ?_) _
        exact hJ.pj.1
    replace hchange := Lib.hid hchange
    replace hno := Lib.hid hno
    unfold sv at cFc hchange
    generalize (⟨(frame (eight N ++ bl s)).toArray⟩ : ByteArray) = Fr at *
    replace cFc := Lib.hid cFc
    go_upto_region 5 with (first | (go_at_call 53; (with_reducible refine cFc.out.mono ?_); rintro e w2 ⟨rfl, hB2⟩; have kc0 := (hB2.cell (p := ⟨w.heap.size, 0, none⟩) hbl0c).trans kb0; have kc0a : ∀ o, (w2.alloc o).cell? ⟨w.heap.size, 0, none⟩ = some (.pointer (some ⟨jb, 0, none⟩)) := (fun o => (World.cell?_alloc_lt _ _ _ (World.block_lt_of_cell? w2 _ kc0)).trans kc0); replace hB2 := Lib.hid hB2))
    have hB4 : ∀ o, Below wc.heap.size wc ((w2.alloc (.cells #[.string Fr] 9)).alloc o) := fun o =>
      (hB2.out.alloc hB2.out.size _).alloc (by have := hB2.out.size; simp; omega) _
    have hC := hchange.out w2.heap.size (w2.heap.size + 1) _ (Nat.le_trans hwcs hB2.out.size) (Nat.le_succ_of_le (Nat.le_trans hwcs hB2.out.size)) (by simp; omega) (by simp) (hB4 _) (obj_cell (heap_alloc2_old w2 _ _) rfl) (heap_alloc2_new w2 _ _)
    replace hC := Lib.hid hC
    replace hB4 := Lib.hid hB4
    go_wp2_with (first | (go_at_call 54; (refine hC.out.mono ?_); rintro e w5 ⟨rfl, hJ5, hK5⟩; replace hJ5 := Lib.hid hJ5; replace hK5 := Lib.hid hK5))
    go_ret
    exact ⟨rfl, hJ5.out, hK5.out⟩
  · have he := hno.out hm
    generalize j.may (bl s) = v at *
    have hv : (v != 0) = true := by simpa using hm
    unfold sv at cFc
    replace cFc := Lib.hid cFc
    replace he := Lib.hid he
    replace hno := Lib.hid hno
    go_wp2_with (first | (go_at_call 53; (with_reducible refine cFc.out.mono ?_); rintro e w2 ⟨rfl, hB2⟩; replace hB2 := Lib.hid hB2))
    go_ret
    have hB3 := (hBw.out.trans (hB2.out.mono hwcs)).alloc (Nat.le_trans hwcs hB2.out.size) (.cells #[.string ⟨(j.frm N (bl s)).toArray⟩] 9)
    rw [he.out]
    exact ⟨rfl, ⟨p, cap, h.out.kept (Kp.of_below (F := fun _ => False) hB3) (fun _ _ _ h => h)⟩, Kp.of_below hB3⟩
end Go.Proofs.Ytidofjjghbhaaaa
namespace Go.Proofs.Ytidofjjghbhaaaa
open Go.RowKit
set_option linter.unusedVariables false

def sC (m : DM) : Int × DM := cutJ m 2 0
def sA (m : DM) (l : List UInt8) : Int × DM := (sC m).2.app 2 l
def sS (m : DM) (l : List UInt8) : Int × DM := (sA m l).2.syn 2
def sV (m : DM) (l : List UInt8) : Int × DM := (sS m l).2.mov 2 1
def sE (m : DM) (l : List UInt8) : Int × DM := (sV m l).2.cut 0 0
theorem snapN_eq {m : DM} {j : JM} {b : List UInt8} (h : j.may b = 0) (l : List UInt8) (hl : l = frame (eight j.last ++ b)) : snapJ m j b =
    if (sC m).1 ≠ 0 then ((sC m).1, (sC m).2, { j with broken := true }) else
    if (sA m l).1 = 4 then (4, (sA m l).2, j) else if (sA m l).1 ≠ 0 then ((sA m l).1, (sA m l).2, { j with broken := true }) else
    if (sS m l).1 ≠ 0 then ((sS m l).1, (sS m l).2, { j with broken := true }) else
    if (sV m l).1 ≠ 0 then ((sV m l).1, (sV m l).2, { j with broken := true }) else
    if (sE m l).1 ≠ 0 then ((sE m l).1, (sE m l).2, { j with broken := true }) else (0, (sE m l).2, ⟨b, j.last, [], false⟩) := by
  obtain ⟨hbr, hsz⟩ := appJ_may (m := m) h
  subst hl
  unfold snapJ sE sV sS sA sC
  rw [if_neg hsz, hbr]
  rfl
def snapR (P : Nat → Prop) (w w4 : World) (jb d : Nat) (m : DM) (j : JM) (b l : List UInt8) (p : Option Addr) (cap : Nat) : Nat → World → Prop
  | 0, w' => IsJv (chP P w w4) w' jb d m j p cap ∧ Kp (chP P w w4) w4 w'
  | 1, w' => IsJv (chP P w w4) w' jb d (sC m).2 j p cap ∧ Kp (chP P w w4) w4 w' ∧ (sC m).1 = 0
  | 2, w' => IsJv (chP P w w4) w' jb d (sA m l).2 j p cap ∧ Kp (chP P w w4) w4 w' ∧ (sC m).1 = 0 ∧ (sA m l).1 = 0
  | 3, w' => IsJv (chP P w w4) w' jb d (sS m l).2 j p cap ∧ Kp (chP P w w4) w4 w' ∧ (sC m).1 = 0 ∧ (sA m l).1 = 0 ∧ (sS m l).1 = 0
  | 4, w' => IsJv (chP P w w4) w' jb d (sV m l).2 j p cap ∧ Kp (chP P w w4) w4 w' ∧ (sC m).1 = 0 ∧ (sA m l).1 = 0 ∧ (sS m l).1 = 0 ∧ (sV m l).1 = 0
  | 5, w' => IsJv (chP P w w4) w' jb d (sE m l).2 j p cap ∧ Kp (chP P w w4) w4 w' ∧ (sC m).1 = 0 ∧ (sA m l).1 = 0 ∧ (sS m l).1 = 0 ∧ (sV m l).1 = 0 ∧ (sE m l).1 = 0
  | _, w' => IsJ (chP P w w4) w' jb d (sE m l).2 ⟨b, j.last, [], j.broken⟩ ∧ Kp (chP P w w4) w4 w' ∧ (sC m).1 = 0 ∧ (sA m l).1 = 0 ∧ (sS m l).1 = 0 ∧ (sV m l).1 = 0 ∧ (sE m l).1 = 0
theorem snapR_kp {P : Nat → Prop} {w w4 w' : World} {jb d : Nat} {m : DM} {j : JM} {b l : List UInt8} {p : Option Addr} {cap : Nat} : ∀ {i : Nat}, snapR P w w4 jb d m j b l p cap i w' → Kp (chP P w w4) w4 w'
  | 0, h => h.2
  | 1, h => h.2.1
  | 2, h => h.2.1
  | 3, h => h.2.1
  | 4, h => h.2.1
  | 5, h => h.2.1
  | _ + 6, h => h.2.1

theorem snapN_any (P : Nat → Prop) (jb d : Nat) (m : DM) (j : JM) (s : ByteArray) (w : World) (h : IsJ P w jb d m j) (ok : m.Ok) (hP : ∀ i, w.heap.size ≤ i → P i) (hs : s.size ≤ 40000) (hl : j.last < 9223372036854000000) :
    Calls Try.prog 23 #[.pointer (some ⟨jb, 0, none⟩), .string s] w fun e w' => e = .returned (.int .i64 (snapJ m j (bl s)).1) ∧ IsJ P w' jb d (snapJ m j (bl s)).2.1 (snapJ m j (bl s)).2.2 ∧ Kp P w w' := by
  obtain ⟨p, cap, h⟩ := h
  refine snap_try P jb d m j s p cap w h hP hs hl (fun hm => (may_bad hm).2) ?_
  intro hm b0 b1 b3 B w4 l0 l1 l3 lB s0 s1 s3 sB hB4 k0 k1 k11 k3 hrow
  obtain ⟨hbr, hsz⟩ := appJ_may (m := m) hm
  have hsz4 := hB4.size
  have hjl := obj_lt h.obj
  have hJ4 : IsJv (chP P w w4) w4 jb d m j p cap := (h.weak (Q := fun i => P i ∧ i < w.heap.size) fun i hi hp => ⟨hp, hi⟩).kept (Kp.of_below (F := fun _ => False) hB4) (fun _ _ _ h => h) |>.weak fun i _ hp => ⟨hp.1, .inl hp.2⟩
  obtain ⟨l, hlf⟩ : ∃ l, l = frame (eight j.last ++ bl s) := ⟨_, rfl⟩
  have hA := snapN_eq (m := m) hm l hlf
  rw [← hlf] at k3
  have okC : (sC m).2.Ok := okCutJ ok _ _
  have okA : (sA m l).2.Ok := okC.app _ _
  have okS : (sS m l).2.Ok := okA.syn _
  have okV : (sV m l).2.Ok := okS.mov _ _
  have hFr : bl (⟨l.toArray⟩ : ByteArray) = l := bl_mk _
  unfold sv at k3
  refine through_any 6 6 B (fun i => match i with | 0 => 61 | 1 => 62 | 2 => 63 | 3 => 64 | 4 => 66 | _ => 68) (fun _ => #[]) (fun i => match i with | 1 => #[.pointer (some ⟨b0, 0, none⟩), .pointer (some ⟨b3, 0, none⟩)] | 5 => #[.pointer (some ⟨b1, 0, none⟩), .pointer (some ⟨b0, 0, none⟩)] | _ => #[.pointer (some ⟨b0, 0, none⟩)])
    w4 (snapR P w w4 jb d m j (bl s) l p cap) (chT P w w4 jb d (snapJ m j (bl s))) (by omega) ?_ ?_ ?_ ⟨hJ4, Kp.refl _ _⟩ ?_
  · intro i w' hi hR
    have hrow' := ((snapR_kp hR).block B sB (chP_not lB sB)).trans hrow
    match i, hi with
    | 0, _ => exact obj_cell hrow' rfl
    | 1, _ => exact obj_cell hrow' rfl
    | 2, _ => exact obj_cell hrow' rfl
    | 3, _ => exact obj_cell hrow' rfl
    | 4, _ => exact obj_cell hrow' rfl
    | 5, _ => exact obj_cell hrow' rfl
  · intro i w' hi
    match i, hi with
    | 0, _ => exact enter61 _ _
    | 1, _ => exact enter62 _ _
    | 2, _ => exact enter63 _ _
    | 3, _ => exact enter64 _ _
    | 4, _ => exact enter66 _ _
    | 5, _ => exact enter68 _ _
  · intro i w' hi hR
    have hK := snapR_kp hR
    have c0 := hK.cell k0 (chP_not l0 s0)
    have c1 := hK.cell k1 (chP_not l1 s1)
    have c11 := hK.cell k11 (chP_not l1 s1)
    have c3 := hK.cell k3 (chP_not l3 s3)
    have hnew := chP_new hP hsz4 hK.size
    match i, hi, hR with
    | 0, _, ⟨hJ0, _⟩ =>
      refine (snap1_any hJ0 ok hnew c0).mono ?_
      rintro e w'' ⟨rfl, hJ, hK2⟩
      refine ⟨_, rfl, fun h0 => ⟨hJ, hK.trans hK2, h0⟩, fun h0 => ⟨_, j, ⟨p, cap, hJ⟩, hK.trans hK2, ?_⟩⟩
      have h0' : (sC m).1 ≠ 0 := h0
      rw [hA, if_pos h0', bad_of (cutJ_ans _ _ _) h0]; rfl
    | 1, _, ⟨hJ0, _, e1⟩ =>
      have := snap2_any _ hJ0 okC hnew c0 c3 (chP_not l0 s0) (chP_not l3 s3)
      rw [hFr] at this
      refine this.mono ?_
      rintro e w'' ⟨rfl, hJ, hK2⟩
      refine ⟨_, rfl, fun h0 => ⟨hJ, hK.trans hK2, e1, h0⟩, fun h0 => ?_⟩
      have h0' : (sA m l).1 ≠ 0 := h0
      by_cases h4 : (sA m l).1 = 4
      · have h4' : ((sC m).2.app 2 l).1 = 4 := h4
        rw [h4']
        exact ⟨_, j, ⟨p, cap, hJ⟩, hK.trans hK2, by rw [hA, if_neg (by simpa using e1), if_pos h4, JM.same (b := bad 4) hbr]; rfl⟩
      · refine ⟨_, j, ⟨p, cap, hJ⟩, hK.trans hK2, ?_⟩
        have hb : bad ((sC m).2.app 2 l).1 = true := by
          have h4' : ¬ ((sC m).2.app 2 l).1 = 4 := h4
          unfold bad; simp [h0, h4']
        rw [hA, if_neg (by simpa using e1), if_neg h4, if_pos h0', hb]; rfl
    | 2, _, ⟨hJ0, _, e1, e2⟩ =>
      refine (snap3_any hJ0 okA hnew c0).mono ?_
      rintro e w'' ⟨rfl, hJ, hK2⟩
      refine ⟨_, rfl, fun h0 => ⟨hJ, hK.trans hK2, e1, e2, h0⟩, fun h0 => ⟨_, j, ⟨p, cap, hJ⟩, hK.trans hK2, ?_⟩⟩
      have h0' : (sS m l).1 ≠ 0 := h0
      rw [hA, if_neg (by simpa using e1), if_neg (by omega), if_neg (by simpa using e2), if_pos h0', bad_of (syn_ans _ _) h0]; rfl
    | 3, _, ⟨hJ0, _, e1, e2, e3⟩ =>
      refine (snap4_any hJ0 okS hnew c0).mono ?_
      rintro e w'' ⟨rfl, hJ, hK2⟩
      refine ⟨_, rfl, fun h0 => ⟨hJ, hK.trans hK2, e1, e2, e3, h0⟩, fun h0 => ⟨_, j, ⟨p, cap, hJ⟩, hK.trans hK2, ?_⟩⟩
      have h0' : (sV m l).1 ≠ 0 := h0
      rw [hA, if_neg (by simpa using e1), if_neg (by omega), if_neg (by simpa using e2), if_neg (by simpa using e3), if_pos h0', bad_of (mov_ans _ _ _) h0]; rfl
    | 4, _, ⟨hJ0, _, e1, e2, e3, e4⟩ =>
      refine (snap5_any hJ0 okV hnew c0).mono ?_
      rintro e w'' ⟨rfl, hJ, hK2⟩
      refine ⟨_, rfl, fun h0 => ⟨hJ, hK.trans hK2, e1, e2, e3, e4, h0⟩, fun h0 => ⟨_, j, ⟨p, cap, hJ⟩, hK.trans hK2, ?_⟩⟩
      have h0' : (sE m l).1 ≠ 0 := h0
      rw [hA, if_neg (by simpa using e1), if_neg (by omega), if_neg (by simpa using e2), if_neg (by simpa using e3), if_neg (by simpa using e4), if_pos h0', bad_of (cut_ans _ _ _) h0]; rfl
    | 5, _, ⟨hJ0, _, e1, e2, e3, e4, e5⟩ =>
      refine (snap6_any j.last (bl s) hJ0 c0 c1 (by rw [sv_bl]; exact c11) (by omega) (by omega)).mono ?_
      rintro e w'' ⟨rfl, hJ, hK2⟩
      exact ⟨0, rfl, fun _ => ⟨hJ, hK.trans hK2, e1, e2, e3, e4, e5⟩, fun h0 => absurd rfl h0⟩
  · rintro w' ⟨hJ, hK, e1, e2, e3, e4, e5⟩
    refine ⟨_, _, hJ, hK, ?_⟩
    rw [hA, if_neg (by simpa using e1), if_neg (by omega), if_neg (by simpa using e2), if_neg (by simpa using e3), if_neg (by simpa using e4), if_neg (by simpa using e5)]
    rfl
end Go.Proofs.Ytidofjjghbhaaaa
namespace Go.Proofs.Ytidofjjghbhaaaa
open Go.RowKit
set_option linter.unusedVariables false

set_option maxHeartbeats 1000000 in
set_option maxRecDepth 100000 in
theorem nil_any (w : World) : Calls Try.prog 15 #[.pointer none] w fun e w' => e = .returned (.tuple #[.pointer none, .int .i64 1]) ∧ Below w.heap.size w w' := by
  have hB : Below w.heap.size w (w.alloc (.cells #[.pointer none] 26)) := (Below.refl _ _).alloc (Nat.le_refl _) _
  replace hB := Lib.hid hB
  go_enter Try.func15, Try.ntmps15
  go_wp2_with fail
  go_ret2
  exact ⟨rfl, hB.out⟩
theorem fuseJ_any {P : Nat → Prop} {jb d : Nat} {m : DM} {j : JM} {w : World} (n : Int) (h : IsJ P w jb d m j) :
    Calls Try.prog 18 #[.pointer (some ⟨d, 0, none⟩), .int .i64 n] w fun e w' => e = .returned (.tuple #[]) ∧ IsJ P w' jb d (m.setf n) j ∧ Kp P w w' := by
  obtain ⟨p, cap, h⟩ := h
  obtain ⟨vs, hv⟩ := h.disk
  refine (fuse_any _ d m vs n w hv).mono ?_
  rintro e w' ⟨rfl, hD, hK⟩
  have hK2 : Kp (dP P jb p) w w' := hK.mono fun i _ e => e ▸ hv.own
  exact ⟨rfl, ⟨p, cap, h.disked ⟨vs, hD⟩ hK2⟩, dP_kp hK2⟩

def theJI : JI where
  IsJ := IsJ
  live := liveJ
  disk := IsJ.disk
  nil := nil_any
  opens := fun P d m w h ok hP => opens_any P d m w h ok hP
  app := fun P jb d m j s w h ok hP hs hl hrl => appN_any P jb d m j s w h ok hP hs hl hrl
  snap := fun P jb d m j s w h ok hP hs hl => snapN_any P jb d m j s w h ok hP hs hl
  text := text_any
  last := last_any
  records := records_any
  fuse := fun n h => fuseJ_any n h
end Go.Proofs.Ytidofjjghbhaaaa
