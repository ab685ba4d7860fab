/- The program's journal in memory; the contracts of through, Text, Last, Records.
  The contracts of the journal's Text, Last, Records, read.
  The contract of the journal's read.
  Entries: plain rows of numbers and texts; how they tell what the document's walk tells. No Go text.
  The contracts of the journal's readAll and inRow.
  The contracts of the journal's readSnapshot and shorten.
  The contract of the journal's readLog.
  The contract of the journal's Open. -/
import Derived.Test.YtidofjjghbhaaaaJL4
import Derived.Deep.QuietTactic
import Derived.BigQuiet
import Derived.Deep.RegionHeld3
import Derived.Laws.ResultCell
import Derived.Laws.BitsAllLaws
import Derived.Deep.RegionLaw
namespace Go.Proofs.Ytidofjjghbhaaaa
open Go.RowKit
set_option linter.unusedVariables false

/-- the disk's blocks: the journal's but for its object and its row -/
def dP (P : Nat → Prop) (jb : Nat) (p : Option Addr) : Nat → Prop := fun i => P i ∧ i ≠ jb ∧ ∀ a, p = some a → i ≠ a.block
/-- the program's journal, in memory -/
structure IsJv (P : Nat → Prop) (w : World) (jb d : Nat) (m : DM) (j : JM) (p : Option Addr) (cap : Nat) : Prop where
  disk : IsD (dP P jb p) w d m
  obj : w.heap[jb]? = some (.cells #[.pointer (some ⟨d, 0, none⟩), .int .i64 (j.base : Nat), sv j.text, .slice p j.recs.length cap, .bool j.broken] 80 (0, 0))
  row : Own 0 w (.slice p j.recs.length cap) j.recs
  rowP : ∀ a, p = some a → P a.block ∧ a.block ≠ jb ∧ a.block < w.heap.size
  pj : P jb
def IsJ (P : Nat → Prop) (w : World) (jb d : Nat) (m : DM) (j : JM) : Prop := ∃ p cap, IsJv P w jb d m j p cap

theorem Own.block {B : Nat} {w w' : World} {v : Value} {ls : List (List UInt8)} (h : Own B w v ls) (hb : ∀ g, v.ownBlock = some g → w'.heap[g]? = w.heap[g]?) : Own B w' v ls := by
  refine ⟨h.1, ?_⟩
  rcases h.2 with hn | ⟨g, cap, cur, rfl, hb0, hgg, rest⟩
  · exact .inl hn
  · exact .inr ⟨g, cap, cur, rfl, hb0, (hb g rfl).trans hgg, rest⟩
theorem Own.own {B n cap : Nat} {w : World} {p : Option Addr} {ls : List (List UInt8)} (h : Own B w (.slice p n cap) ls) {g : Nat} (hg : (Value.slice p n cap).ownBlock = some g) : ∃ a, p = some a ∧ a.block = g := by
  rcases h.2 with ⟨e, _⟩ | ⟨k, c, cur, e, _⟩
  · injection e with e; subst e; simp [Value.ownBlock] at hg
  · injection e with e; subst e; simp [Value.ownBlock] at hg; exact ⟨_, rfl, hg⟩
theorem Own.addr {B n cap : Nat} {w : World} {p : Option Addr} {ls : List (List UInt8)} (h : Own B w (.slice p n cap) ls) {a : Addr} (ha : p = some a) : (Value.slice p n cap).ownBlock = some a.block ∧ a.block < w.heap.size := by
  subst ha
  rcases h.2 with ⟨e, _⟩ | ⟨k, c, cur, e, _, hk, _⟩
  · injection e with e; cases e
  · injection e with e; injection e with e; subst e; exact ⟨rfl, obj_lt hk⟩
theorem IsJv.kept {P F : Nat → Prop} {w w' : World} {jb d : Nat} {m : DM} {j : JM} {p : Option Addr} {cap : Nat} (h : IsJv P w jb d m j p cap) (hK : Kp F w w') (hF : ∀ j, j < w.heap.size → P j → ¬ F j) : IsJv P w' jb d m j p cap := by
  refine ⟨h.disk.kept hK fun j hj hp => hF j hj hp.1, (hK.block jb (obj_lt h.obj) (hF jb (obj_lt h.obj) h.pj)).trans h.obj, h.row.block fun g hg => ?_, fun a ha => ⟨(h.rowP a ha).1, (h.rowP a ha).2.1, Nat.lt_of_lt_of_le (h.rowP a ha).2.2 hK.size⟩, h.pj⟩
  obtain ⟨a, ha, rfl⟩ := h.row.own hg
  exact hK.block _ (h.rowP a ha).2.2 (hF _ (h.rowP a ha).2.2 (h.rowP a ha).1)
theorem IsJv.weak {P Q : Nat → Prop} {w : World} {jb d : Nat} {m : DM} {j : JM} {p : Option Addr} {cap : Nat} (h : IsJv P w jb d m j p cap) (hq : ∀ j, j < w.heap.size → P j → Q j) : IsJv Q w jb d m j p cap :=
  ⟨h.disk.weak fun i hi hp => ⟨hq i hi hp.1, hp.2⟩, h.obj, h.row, fun a ha => ⟨hq _ (h.rowP a ha).2.2 (h.rowP a ha).1, (h.rowP a ha).2⟩, hq _ (obj_lt h.obj) h.pj⟩
theorem IsJ.kept {P F : Nat → Prop} {w w' : World} {jb d : Nat} {m : DM} {j : JM} (h : IsJ P w jb d m j) (hK : Kp F w w') (hF : ∀ j, j < w.heap.size → P j → ¬ F j) : IsJ P w' jb d m j := by
  obtain ⟨p, cap, h⟩ := h; exact ⟨p, cap, h.kept hK hF⟩
theorem IsJ.weak {P Q : Nat → Prop} {w : World} {jb d : Nat} {m : DM} {j : JM} (h : IsJ P w jb d m j) (hq : ∀ j, j < w.heap.size → P j → Q j) : IsJ Q w jb d m j := by
  obtain ⟨p, cap, h⟩ := h; exact ⟨p, cap, h.weak hq⟩
theorem liveJ (jb d : Nat) (m : DM) (j : JM) : Live fun P w => IsJ P w jb d m j := ⟨fun h k hf => h.kept k hf, fun h hq => h.weak hq⟩
theorem IsJv.new {P : Nat → Prop} {w : World} {jb d : Nat} {m : DM} {j : JM} {p : Option Addr} {cap : Nat} (h : IsJv P w jb d m j p cap) (hP : ∀ i, w.heap.size ≤ i → P i) : ∀ i, w.heap.size ≤ i → dP P jb p i := fun i hi =>
  ⟨hP i hi, fun e => by have := obj_lt h.obj; omega, fun a ha e => by have := (h.rowP a ha).2.2; omega⟩
/-- behind a call of the disk's -/
theorem IsJv.disked {P : Nat → Prop} {w w' : World} {jb d : Nat} {m m' : DM} {j : JM} {p : Option Addr} {cap : Nat} (h : IsJv P w jb d m j p cap) (hD : IsD (dP P jb p) w' d m') (hK : Kp (dP P jb p) w w') : IsJv P w' jb d m' j p cap := by
  refine ⟨hD, (hK.block jb (obj_lt h.obj) fun e => e.2.1 rfl).trans h.obj, h.row.block fun g hg => ?_, fun a ha => ⟨(h.rowP a ha).1, (h.rowP a ha).2.1, Nat.lt_of_lt_of_le (h.rowP a ha).2.2 hK.size⟩, h.pj⟩
  obtain ⟨a, ha, rfl⟩ := h.row.own hg
  exact hK.block _ (h.rowP a ha).2.2 fun e => e.2.2 a ha rfl
theorem dP_kp {P : Nat → Prop} {jb : Nat} {p : Option Addr} {w w' : World} (h : Kp (dP P jb p) w w') : Kp P w w' := h.mono fun _ _ e => e.1
theorem IsJ.disk {P : Nat → Prop} {w : World} {jb d : Nat} {m : DM} {j : JM} (h : IsJ P w jb d m j) : IsD P w d m := by
  obtain ⟨p, cap, h⟩ := h; exact h.disk.weak fun _ _ e => e.1

set_option maxHeartbeats 2000000 in
set_option maxRecDepth 100000 in
/-- steps, till one fails -/
theorem through_any (n cap B : Nat) (g : Nat → FuncId) (bd cb : Nat → Array Value) (w : World) (R : Nat → World → Prop) (T : Int → World → Prop) (hn : n ≤ 100)
    (hv : ∀ i w', i < n → R i w' → w'.cell? ⟨B, i, none⟩ = some (.func (.func (g i)) (bd i) (cb i)))
    (henter : ∀ i w', i < n → (callFunc (g i) (bd i ++ cb i)).run Try.prog w' = .ok (.enter (g i) (bd i ++ cb i)) w')
    (hstep : ∀ i w', i < n → R i w' → Calls Try.prog (g i) (bd i ++ cb i) w' fun e w'' => ∃ x, e = .returned (.int .i64 x) ∧ (x = 0 → R (i + 1) w'') ∧ (x ≠ 0 → T x w''))
    (h0 : R 0 w) (hT : ∀ w', R n w' → T 0 w') :
    Calls Try.prog 40 #[.slice (some ⟨B, 0, none⟩) n cap] w fun e w' => ∃ x, e = .returned (.int .i64 x) ∧ T x w' := by
  replace hv := Lib.hid hv
  replace henter := Lib.hid henter
  replace hstep := Lib.hid hstep
  replace h0 := Lib.hid h0
  replace hT := Lib.hid hT
  go_enter Try.func40, Try.ntmps40
  go_wp2_with fail
  go_loopw [8] (fun i wr => ∃ k : Nat, k ≤ n ∧ i = .int .i64 k ∧ Hid (R k wr)) (fun i _ => n - (intOf i).toNat)
  case atStart => exact ⟨0, by omega, rfl, h0⟩
  case round =>
    obtain ⟨k, hk, rfl, hR⟩ := hrel
    by_cases hkn : k < n
    · have hkz : (k : Int) < (n : Int) := by omega
      have c := hv.out k wr hkn hR.out
      have he := fun w' => henter.out k w' hkn
      have hs := hstep.out k wr hkn hR.out
      generalize g k = gk at *
      generalize bd k = bk at *
      generalize cb k = ck at *
      replace hs := Lib.hid hs
      go_wp2_with fail
      refine hs.out.mono ?_
      rintro e w' ⟨x, rfl, hx0, hx1⟩
      by_cases hx : x = 0
      · subst hx
        have hR2 : Hid (R (k + 1) w') := Lib.hid (hx0 rfl)
        clear hx0 hx1
        go_wp2_with fail
        go_roundw
        case rel => exact ⟨k + 1, by omega, by go_num, hR2⟩
        case measure => simp [intOf]; omega
      · have hR2 : Hid (T x w') := Lib.hid (hx1 hx)
        have hb : (x != 0) = true := by simpa using hx
        clear hx0 hx1
        go_wp2_with fail
        go_ret
        exact ⟨x, rfl, hR2.out⟩
    · obtain rfl : k = n := by omega
      have hR2 : Hid (T 0 wr) := Lib.hid (hT.out wr hR.out)
      go_wp2_with fail
      go_ret
      exact ⟨0, rfl, hR2.out⟩
end Go.Proofs.Ytidofjjghbhaaaa
namespace Go.Proofs.Ytidofjjghbhaaaa
open Go.RowKit
set_option linter.unusedVariables false

set_option maxHeartbeats 2000000 in
set_option maxRecDepth 100000 in
theorem text_any {P : Nat → Prop} {jb d : Nat} {m : DM} {j : JM} {w : World} (h : IsJ P w jb d m j) :
    Calls Try.prog 25 #[.pointer (some ⟨jb, 0, none⟩)] w fun e w' => e = .returned (.tuple #[sv j.text, .int .i64 (j.base : Nat)]) ∧ ∃ n, w' = w.drewN n := by
  obtain ⟨p, cap, h⟩ := h
  have c1 : w.cell? ⟨jb, 1, none⟩ = some (.int .i64 (j.base : Nat)) := obj_cell h.obj rfl
  have c2 : w.cell? ⟨jb, 2, none⟩ = some (sv j.text) := obj_cell h.obj rfl
  unfold sv at *
  generalize (⟨j.text.toArray⟩ : ByteArray) = T at *
  replace h := Lib.hid h
  go_enter Try.func25, Try.ntmps25
  go_wp2_with fail
  go_quiet (fail)
  go_wp2_with fail
  go_ret2
  exact ⟨rfl, nq, rfl⟩
set_option maxHeartbeats 2000000 in
set_option maxRecDepth 100000 in
theorem last_any {P : Nat → Prop} {jb d : Nat} {m : DM} {j : JM} {w : World} (h : IsJ P w jb d m j) (hl : j.last < 9223372036854000000) :
    Calls Try.prog 26 #[.pointer (some ⟨jb, 0, none⟩)] w fun e w' => e = .returned (.int .i64 (j.last : Nat)) ∧ ∃ n, w' = w.drewN n := by
  obtain ⟨p, cap, h⟩ := h
  have c1 : w.cell? ⟨jb, 1, none⟩ = some (.int .i64 (j.base : Nat)) := obj_cell h.obj rfl
  have c3 : w.cell? ⟨jb, 3, none⟩ = some (.slice p j.recs.length cap) := obj_cell h.obj rfl
  have hz : IntKind.i64.wrap ((j.base : Int) + (j.recs.length : Int)) = ((j.last : Nat) : Int) := by unfold JM.last at *; rw [IntKind.wrap_i64] <;> omega
  replace h := Lib.hid h
  generalize j.last = last at *
  generalize j.recs.length = n at *
  go_enter Try.func26, Try.ntmps26
  go_wp2_with fail
  go_quiet (fail)
  go_wp2_with fail
  go_ret
  exact ⟨rfl, nq, rfl⟩
set_option maxHeartbeats 2000000 in
set_option maxRecDepth 100000 in
theorem records_any {P : Nat → Prop} {jb d : Nat} {m : DM} {j : JM} {w : World} (h : IsJ P w jb d m j) (hrl : j.recs.length < 33000000) :
    Calls Try.prog 28 #[.pointer (some ⟨jb, 0, none⟩)] w fun e w' => (∃ p cap, e = .returned (.slice p j.recs.length cap) ∧ SRow w' p j.recs.length j.recs) ∧ Below w.heap.size w w' := by
  obtain ⟨p, cap, h⟩ := h
  have c3 : w.cell? ⟨jb, 3, none⟩ = some (.slice p j.recs.length cap) := obj_cell h.obj rfl
  have hC : Calls Try.prog 71 #[.slice p j.recs.length cap] w fun e w' => (∃ p cap, e = .returned (.slice p j.recs.length cap) ∧ SRow w' p j.recs.length j.recs) ∧ Below w.heap.size w w' := by
    have hr := h.row
    obtain ⟨p', cap', e, hS⟩ := hr.row
    rcases hr.2 with ⟨e2, h0⟩ | ⟨g, c, cur, e2, _, hg, hn, _⟩
    · injection e2 with e2
      subst e2
      refine (Try.slices_Clone_string_nil j.recs.length cap w).mono ?_
      rintro e w' ⟨rfl, rfl⟩
      have hl : j.recs = [] := List.eq_nil_of_length_eq_zero h0
      rw [hl]
      exact ⟨⟨none, 0, rfl, rfl, .inl rfl⟩, Below.refl _ _⟩
    · injection e2 with e2 e3 e4
      subst e2
      injection e with e5 e6 e7
      subst e5
      obtain ⟨s1, s2⟩ := hS
      have hc : ∀ i, i < (j.recs.map fun l => (⟨l.toArray⟩ : ByteArray)).length → w.cell? ⟨g, 0 + i, none⟩ = some (.string ((j.recs.map fun l => (⟨l.toArray⟩ : ByteArray)).getD i ByteArray.empty)) := by
        intro i hi
        rw [List.length_map] at hi
        rcases s2 with s2 | ⟨b, off, hb, _, hc⟩
        · omega
        · injection hb with hb
          injection hb with hb1 hb2
          subst hb1; subst hb2
          rw [hc i hi, List.getD_eq_getElem?_getD, List.getD_eq_getElem?_getD, List.getElem?_map, List.getElem?_eq_getElem hi]
          rfl
      refine (Try.slices_Clone_string g 0 j.recs.length cap (j.recs.map fun l => (⟨l.toArray⟩ : ByteArray)) w (by simp) (by omega) hc).mono ?_
      rintro e w' ⟨v', rfl, hO, _, hB⟩
      have hO2 : Own w.heap.size w' v' j.recs := by
        unfold Own
        rw [List.take_of_length_le (by simp), List.map_map] at hO
        exact hO
      obtain ⟨p2, cap2, rfl, hS2⟩ := hO2.row
      exact ⟨⟨p2, cap2, rfl, hS2⟩, hB⟩
  replace h := Lib.hid h
  replace hC := Lib.hid hC
  go_enter Try.func28, Try.ntmps28
  go_wp2_with (first | (go_at_call 71; refine hC.out.mono ?_; rintro e w' ⟨⟨p1, cap1, rfl, hs1⟩, hb1⟩; replace hs1 := Lib.hid hs1; replace hb1 := Lib.hid hb1))
  go_ret
  exact ⟨⟨p1, cap1, rfl, hs1.out⟩, hb1.out⟩
end Go.Proofs.Ytidofjjghbhaaaa
namespace Go.Proofs.Ytidofjjghbhaaaa
open Go.RowKit
set_option linter.unusedVariables false

/-- an entry's value -/
def ev (e : Nat × List UInt8) : Value := .agg #[.int .i64 (e.1 : Nat), sv e.2]
/-- what bytes tell: an entry, or none -/
def rdV (l : List UInt8) : Value := match num8 l with | some n => ev (n, l.drop 8) | none => ev (0, [])
def rdB (l : List UInt8) : Bool := (num8 l).isSome
theorem shl_or (x b : Nat) (hx : x < 72057594037927936) (hb : b < 256) : bits .or .u64 (IntKind.u64.wrap ((x : Int) * 256)) (b : Int) = ((x * 256 + b : Nat) : Int) := by
  have w1 : IntKind.u64.wrap ((x : Int) * 256) = ((x * 256 : Nat) : Int) := by rw [IntKind.wrap_u64]; omega
  rw [w1, u64_or_nat _ _ (by omega) (by omega)]
  have e1 : x * 256 ||| b = x * 256 + b := by
    have := Nat.two_pow_add_eq_or_of_lt (i := 8) (b := b) (by omega) x
    rw [show 2 ^ 8 * x = x * 256 by omega] at this; exact this.symm
  rw [e1]
theorem cellsOf78 : (Try.prog.info? 78).map (·.size) = some 2 := by kernel_rfl


theorem ret75 {tmps : Array Value} {w : World} {post : Ending → World → Prop} (g : Nat) (a b : Value) (ok : Value) (hp : tmps.getD 2 undef = .pointer (some ⟨g, 0, none⟩)) (hk : tmps.getD 3 undef = ok)
    (hg : w.heap[g]? = some (.cells #[a, b] 78 (0, 0))) (h : post (.returned (.tuple #[.agg #[a, b], ok])) w) : bodyPost Try.prog Try.f75 post Exit.ret ⟨tmps, []⟩ w := by
  refine bodyPost_ret (v := .tuple #[.agg #[a, b], ok]) ?_ rfl h
  rw [results_cell_tmp rfl, hp, hk]
  have hl := run_loadVar_row w g 78 78 #[a, b] (0, 0) _ hg Try.underlying78 rfl cellsOf78
  simp [asAddr, Result.andThen, hl]

set_option maxHeartbeats 4000000 in
set_option maxRecDepth 100000 in
theorem readE_any (s : ByteArray) (w : World) (hs : s.size ≤ 16777216) :
    Calls Try.prog 75 #[.string s] w fun e w' => e = .returned (.tuple #[rdV (bl s), .bool (rdB (bl s))]) ∧ Below w.heap.size w w' := by
  have hB0 : Below w.heap.size w (w.alloc (.cells #[.int .i64 0, .string ⟨#[]⟩] 78)) := (Below.refl _ _).alloc (Nat.le_refl _) _
  have hg0 := heap_alloc_new w (.cells #[.int .i64 0, .string ⟨#[]⟩] 78)
  by_cases h8 : s.size < 8
  · have e : num8 (bl s) = none := by unfold num8; rw [if_pos (by rw [bl_length]; exact h8)]
    have hz : (s.size : Int) < 8 := by omega
    unfold rdV rdB
    rw [e]
    replace hB0 := Lib.hid hB0
    replace hg0 := Lib.hid hg0
    go_enter Try.func75, Try.ntmps75
    go_wp2_with fail
    exact ret75 w.heap.size _ _ _ rfl rfl hg0.out ⟨rfl, hB0.out⟩
  · have hlen : ¬ (bl s).length < 8 := by rw [bl_length]; exact h8
    have hz : ¬ (s.size : Int) < 8 := by omega
    replace hB0 := Lib.hid hB0
    replace hg0 := Lib.hid hg0
    go_enter Try.func75, Try.ntmps75
    go_wp2_with fail
    go_loop [4, 10] (fun n i => ∃ k : Nat, k ≤ 8 ∧ i = .int .i64 k ∧ n = .int .u64 (valOf ((bl s).take k) : Nat)) (fun _ i => 8 - (intOf i).toNat)
    case atStart => exact ⟨0, by omega, rfl, rfl⟩
    case round =>
      obtain ⟨k, hk, rfl, rfl⟩ := hrel
      by_cases hk8 : k < 8
      · have kz : (k : Int) < 8 := by omega
        have hks : k < s.size := by omega
        have hsu := valTake_succ (bl s) k (by rw [bl_length]; exact hks)
        have hb : (bl s)[k]'(by rw [bl_length]; exact hks) = s[k] := rfl
        rw [hb] at hsu
        have hlt := valTake_lt (bl s) k
        have hb2 := s[k].toNat_lt
        have hx : valOf ((bl s).take k) < 72057594037927936 := by
          have : (256 : Nat) ^ k ≤ 256 ^ 7 := Nat.pow_le_pow_right (by omega) (by omega)
          omega
        have ho := shl_or (valOf ((bl s).take k)) s[k].toNat hx hb2
        have a0 := IntWalk.u64_in (s[k].toNat : Int) (by omega)
        rw [← hsu] at ho
        generalize hn1 : valOf ((bl s).take (k + 1)) = n1 at *
        generalize valOf ((bl s).take k) = n at *
        have w1 : IntKind.u64.wrap ((n : Int) * 256) = (n : Int) * 256 := by rw [IntKind.wrap_u64]; omega
        rw [w1] at ho
        replace hsu := Lib.hid hsu
        replace hn1 := Lib.hid hn1
        replace hlt := Lib.hid hlt
        go_wp2_with fail
        go_round
        case rel => exact ⟨k + 1, by omega, by go_num, by rw [hn1.out]⟩
        case measure => simp [intOf]; omega
      · obtain rfl : k = 8 := by omega
        by_cases hbig : valOf ((bl s).take 8) < 4611686018427387904
        · have e : num8 (bl s) = some (valOf ((bl s).take 8)) := by unfold num8; rw [if_neg hlen, if_pos hbig]
          have eV : rdV (bl s) = ev (valOf ((bl s).take 8), (bl s).drop 8) := by unfold rdV; rw [e]
          have eB : rdB (bl s) = true := by unfold rdB; rw [e]; rfl
          clear e
          replace eV := Lib.hid eV
          replace eB := Lib.hid eB
          have h1 : ¬ (4611686018427387904 : Int) ≤ ((valOf ((bl s).take 8) : Nat) : Int) := by omega
          generalize valOf ((bl s).take 8) = n at *
          have hcv : IntKind.i64.wrap (n : Int) = (n : Int) := by rw [IntKind.wrap_i64]; omega
          have hsl : (8 : Nat) ≤ s.size := by omega
          go_wp2_with fail
          exact ret75 w.heap.size _ _ _ rfl rfl (heap_alloc_new w _) ⟨by rw [eV.out, eB.out, show Value.string (s.extract 8 s.size) = sv ((bl s).drop 8) by rw [← sv_bl (s.extract 8 s.size), stop_at]]; rfl, (Below.refl _ _).alloc (Nat.le_refl _) _⟩
        · have e : num8 (bl s) = none := by unfold num8; rw [if_neg hlen, if_neg hbig]
          have eV : rdV (bl s) = ev (0, []) := by unfold rdV; rw [e]
          have eB : rdB (bl s) = false := by unfold rdB; rw [e]; rfl
          clear e
          replace eV := Lib.hid eV
          replace eB := Lib.hid eB
          have h1 : (4611686018427387904 : Int) ≤ ((valOf ((bl s).take 8) : Nat) : Int) := by omega
          generalize valOf ((bl s).take 8) = n at *
          go_wp2_with fail
          exact ret75 w.heap.size _ _ _ rfl rfl hg0.out ⟨by rw [eV.out, eB.out]; rfl, hB0.out⟩
end Go.Proofs.Ytidofjjghbhaaaa
namespace Go.Proofs.Ytidofjjghbhaaaa
set_option linter.unusedVariables false

/-- an entry out of bytes -/
def ent (l : List UInt8) : Nat × List UInt8 := ((num8 l).getD 0, l.drop 8)
theorem ent_some {l : List UInt8} {n : Nat} (h : num8 l = some n) : ent l = (n, l.drop 8) := by unfold ent; rw [h]; rfl
def allE (ls : List (List UInt8)) : Bool := ls.all fun l => (num8 l).isSome
theorem allE_getD {ls : List (List UInt8)} (h : allE ls = true) (k : Nat) (hk : k < ls.length) : ∃ n, num8 (ls.getD k []) = some n := by
  unfold allE at h
  rw [List.all_eq_true] at h
  have := h (ls.getD k []) (by rw [List.getD_eq_getElem?_getD, List.getElem?_eq_getElem hk]; exact List.getElem_mem hk)
  exact Option.isSome_iff_exists.1 this
theorem allE_not {ls : List (List UInt8)} (k : Nat) (hk : k < ls.length) (h : num8 (ls.getD k []) = none) : allE ls = false := by
  cases he : allE ls with
  | false => rfl
  | true => obtain ⟨n, hn⟩ := allE_getD he k hk; rw [hn] at h; cases h
theorem allE_of (ls : List (List UInt8)) (h : ∀ k, k < ls.length → ∃ n, num8 (ls.getD k []) = some n) : allE ls = true := by
  unfold allE
  rw [List.all_eq_true]
  intro x hx
  obtain ⟨k, hk, rfl⟩ := List.getElem_of_mem hx
  obtain ⟨n, hn⟩ := h k hk
  rw [List.getD_eq_getElem?_getD, List.getElem?_eq_getElem hk] at hn
  show (num8 ls[k]).isSome = true
  simp at hn
  rw [hn]; rfl
/-- numbers that rise by one, from a on -/
def chain (a : Nat) : List (Nat × List UInt8) → Prop
  | [] => True
  | e :: es => e.1 = a ∧ chain (a + 1) es
/-- numbers that rise by one each, from one on that may be -/
def rowOk (base : Nat) : List (Nat × List UInt8) → Prop
  | [] => True
  | e :: es => 1 ≤ e.1 ∧ e.1 ≤ base + 1 ∧ chain (e.1 + 1) es
def above (base : Nat) (es : List (Nat × List UInt8)) : List (List UInt8) := (es.filter fun e => decide (base < e.1)).map (·.2)

theorem walk_chain (base : Nat) : ∀ (ls : List (List UInt8)) (p : Nat), (allE ls = true ∧ chain (p + 1) (ls.map ent) → walkR base (some p) ls = some (above base (ls.map ent))) ∧
    (¬ (allE ls = true ∧ chain (p + 1) (ls.map ent)) → walkR base (some p) ls = none)
  | [], p => ⟨fun _ => rfl, fun h => absurd ⟨rfl, trivial⟩ h⟩
  | l :: ls, p => by
    rw [walkR]
    cases hn : num8 l with
    | none =>
      refine ⟨fun h => ?_, fun _ => rfl⟩
      have := h.1
      unfold allE at this
      rw [List.all_cons, hn] at this
      cases this
    | some n =>
      have hall : allE (l :: ls) = allE ls := by unfold allE; rw [List.all_cons, hn]; rfl
      simp only [List.map_cons, ent_some hn, hall]
      by_cases hw : n = p + 1
      · obtain ⟨h1, h2⟩ := walk_chain base ls n
        rw [if_neg (by unfold wrongNext; simp; omega)]
        subst hw
        refine ⟨fun h => ?_, fun h => ?_⟩
        · rw [h1 ⟨h.1, h.2.2⟩]
          unfold above
          by_cases hb : base < p + 1
          · simp [hb]
          · simp [hb]
        · rw [h2 fun h3 => h ⟨h3.1, rfl, h3.2⟩]; rfl
      · rw [if_pos (.inr (by unfold wrongNext; exact hw))]
        exact ⟨fun h => absurd h.2.1 hw, fun _ => rfl⟩
theorem walk_row (base : Nat) (ls : List (List UInt8)) : (allE ls = true ∧ rowOk base (ls.map ent) → walkR base none ls = some (above base (ls.map ent))) ∧
    (¬ (allE ls = true ∧ rowOk base (ls.map ent)) → walkR base none ls = none) := by
  cases ls with
  | nil => exact ⟨fun _ => rfl, fun h => absurd ⟨rfl, trivial⟩ h⟩
  | cons l ls =>
    rw [walkR]
    cases hn : num8 l with
    | none =>
      refine ⟨fun h => ?_, fun _ => rfl⟩
      have := h.1
      unfold allE at this
      rw [List.all_cons, hn] at this
      cases this
    | some n =>
      have hall : allE (l :: ls) = allE ls := by unfold allE; rw [List.all_cons, hn]; rfl
      simp only [List.map_cons, ent_some hn, hall]
      by_cases hw : 1 ≤ n ∧ n ≤ base + 1
      · obtain ⟨h1, h2⟩ := walk_chain base ls n
        rw [if_neg (by unfold wrongNext; simp; omega)]
        refine ⟨fun h => ?_, fun h => ?_⟩
        · rw [h1 ⟨h.1, h.2.2.2⟩]
          unfold above
          by_cases hb : base < n
          · simp [hb]
          · simp [hb]
        · rw [h2 fun h3 => h ⟨h3.1, hw.1, hw.2, h3.2⟩]; rfl
      · rw [if_pos (by unfold wrongNext; omega)]
        exact ⟨fun h => absurd ⟨h.2.1, h.2.2.1⟩ hw, fun _ => rfl⟩
def eAt (es : List (Nat × List UInt8)) (i : Nat) : Nat × List UInt8 := es.getD i (0, [])
theorem chain_iff : ∀ (es : List (Nat × List UInt8)) (a : Nat), chain a es ↔ ∀ i, i < es.length → (eAt es i).1 = a + i
  | [], a => by simp [chain]
  | e :: es, a => by
    rw [chain, chain_iff es (a + 1)]
    constructor
    · rintro ⟨h1, h2⟩ i hi
      cases i with
      | zero => exact h1
      | succ i => have := h2 i (by simpa using hi); unfold eAt at *; simp only [List.getD_cons_succ]; omega
    · intro h
      refine ⟨h 0 (by simp), fun i hi => ?_⟩
      have := h (i + 1) (by simpa using hi)
      unfold eAt at *
      simp only [List.getD_cons_succ] at this
      omega
theorem rowOk_iff (base : Nat) (es : List (Nat × List UInt8)) (h : es ≠ []) : rowOk base es ↔ (∀ i, i < es.length → (eAt es i).1 = (eAt es 0).1 + i) ∧ 1 ≤ (eAt es 0).1 ∧ (eAt es 0).1 ≤ base + 1 := by
  cases es with
  | nil => exact absurd rfl h
  | cons e es =>
    have e0 : eAt (e :: es) 0 = e := rfl
    rw [rowOk, e0, chain_iff]
    constructor
    · rintro ⟨h1, h2, h3⟩
      refine ⟨fun i hi => ?_, h1, h2⟩
      cases i with
      | zero => exact Nat.add_zero _ ▸ rfl
      | succ i => have := h3 i (by simpa using hi); unfold eAt at *; simp only [List.getD_cons_succ]; omega
    · rintro ⟨h3, h1, h2⟩
      refine ⟨h1, h2, fun i hi => ?_⟩
      have := h3 (i + 1) (by simpa using hi)
      unfold eAt at *
      simp only [List.getD_cons_succ] at this
      omega
/-- cells of entries -/
def ecells (es : List (Nat × List UInt8)) : List Value := es.flatMap fun e => [.int .i64 (e.1 : Nat), sv e.2]
theorem ecells_length (es : List (Nat × List UInt8)) : (ecells es).length = es.length * 2 := by
  induction es with
  | nil => rfl
  | cons e es ih => show ([Value.int .i64 (e.1 : Nat), sv e.2] ++ ecells es).length = _; rw [List.length_append, ih, List.length_cons]; simp; omega
theorem ecells_at : ∀ (es : List (Nat × List UInt8)) (i : Nat), i < es.length → (ecells es)[i * 2]? = some (.int .i64 ((eAt es i).1 : Nat)) ∧ (ecells es)[i * 2 + 1]? = some (sv (eAt es i).2)
  | [], i, h => by simp at h
  | e :: es, 0, h => ⟨rfl, rfl⟩
  | e :: es, i + 1, h => by
    have := ecells_at es i (by simpa using h)
    have hc : ecells (e :: es) = Value.int .i64 (e.1 : Nat) :: sv e.2 :: ecells es := rfl
    rw [hc, show (i + 1) * 2 = i * 2 + 1 + 1 by omega]
    simp only [List.getElem?_cons_succ]
    exact this
theorem ecells_snoc (es : List (Nat × List UInt8)) (e : Nat × List UInt8) : ecells (es ++ [e]) = ecells es ++ [.int .i64 (e.1 : Nat), sv e.2] := by simp [ecells]
end Go.Proofs.Ytidofjjghbhaaaa
namespace Go.Proofs.Ytidofjjghbhaaaa
open Go.RowKit
set_option linter.unusedVariables false

theorem Try.info78 : (Try.prog.info? 78).map (fun i => (i.zero, i.size, i.bytes)) = some (some (.agg #[.int .i64 0, .string ⟨#[]⟩]), 2, 24) := by kernel_rfl
/-- a row of entries of one's own -/
def EOwn (B : Nat) (w : World) (v : Value) (es : List (Nat × List UInt8)) : Prop := w.ownsRow B 78 2 v es.length (ecells es)
theorem EOwn.nil (B : Nat) (w : World) : EOwn B w (.slice none 0 0) [] := World.ownsRow_nil w B 78 2
theorem EOwn.lt {B : Nat} {w : World} {v : Value} {es : List (Nat × List UInt8)} (h : EOwn B w v es) : ∀ k, v.ownBlock = some k → B ≤ k ∧ k < w.heap.size := World.ownsRow.lt h
theorem EOwn.kept {B : Nat} {w w' : World} {v : Value} {es : List (Nat × List UInt8)} (h : EOwn B w v es) (hb : Below w.heap.size w w') : EOwn B w' v es := by
  refine ⟨h.1, ?_⟩
  rcases h.2 with hn | ⟨g, cap, cur, rfl, hb0, hgg, rest⟩
  · exact .inl hn
  · exact .inr ⟨g, cap, cur, rfl, hb0, (hb.block g (obj_lt hgg)).trans hgg, rest⟩
theorem EOwn.row {B : Nat} {w : World} {v : Value} {es : List (Nat × List UInt8)} (h : EOwn B w v es) : ∃ p cap, v = .slice p es.length cap ∧ (es.length = 0 ∨ ∃ g, p = some ⟨g, 0, none⟩ ∧ B ≤ g ∧ g < w.heap.size ∧
    ∀ i, i < es.length → w.cell? ⟨g, i * 2, none⟩ = some (.int .i64 ((eAt es i).1 : Nat)) ∧ w.cell? ⟨g, i * 2 + 1, none⟩ = some (sv (eAt es i).2)) := by
  rcases h.2 with ⟨rfl, h0⟩ | ⟨g, cap, cur, rfl, hb, hh, hn, hc, hs, ht⟩
  · exact ⟨none, 0, by rw [h0], .inl h0⟩
  · refine ⟨_, cap, rfl, .inr ⟨g, rfl, hb, obj_lt hh, fun i hi => ?_⟩⟩
    have at_ : ∀ q, q < es.length * 2 → cur[q]? = (ecells es)[q]? := fun q hq => by
      rw [← ht, List.getElem?_take, if_pos hq, Array.getElem?_toList]
    have := ecells_at es i hi
    rw [cell_of_row w g _ cur 78 (0, 0) hh, cell_of_row w g _ cur 78 (0, 0) hh, at_ _ (by omega), at_ _ (by omega)]
    exact this

/-- what reading all holds behind k records -/
structure RA (B : Nat) (w wr : World) (ls : List (List UInt8)) (k : Nat) (v : Value) : Prop where
  own : EOwn B wr v ((ls.take k).map ent)
  bel : Below B w wr
  good : ∀ i, i < k → ∃ n, num8 (ls.getD i []) = some n

set_option maxHeartbeats 4000000 in
set_option maxRecDepth 100000 in
theorem readAll_any (p : Option Addr) (cap : Nat) (ls : List (List UInt8)) (w : World) (hs : SRow w p ls.length ls) (hsh : ∀ k, (ls.getD k []).length ≤ 16777216) (hl : ls.length ≤ 16777216) :
    Calls Try.prog 76 #[.slice p ls.length cap] w fun e w' => (∃ v, e = .returned (.tuple #[v, .bool (allE ls)]) ∧ (∃ p cap n, v = .slice p n cap) ∧ (allE ls = true → EOwn w.heap.size w' v (ls.map ent))) ∧ Below w.heap.size w w' := by
  obtain ⟨i0, hi, hz0, hz1, hz2⟩ := info_parts Try.info78
  obtain ⟨_, hs⟩ := hs
  replace hs := Lib.hid hs
  replace hsh := Lib.hid hsh
  replace hi := Lib.hid hi
  replace hz0 := Lib.hid hz0
  replace hz1 := Lib.hid hz1
  replace hz2 := Lib.hid hz2
  go_enter Try.func76, Try.ntmps76
  go_wp2_with fail
  go_loopw [4, 11] (fun v i wr => ∃ k : Nat, k ≤ ls.length ∧ i = .int .i64 k ∧ Hid (RA w.heap.size w wr ls k v)) (fun _ i _ => ls.length - (intOf i).toNat)
  case atStart => exact ⟨0, by omega, rfl, Lib.hid ⟨EOwn.nil _ _, Below.refl _ _, fun i hi => absurd hi (by omega)⟩⟩
  case round =>
    obtain ⟨k, hk, rfl, hR⟩ := hrel
    by_cases hkl : k < ls.length
    · have hkz : (k : Int) < (ls.length : Int) := by omega
      obtain ⟨rb, off, rfl, hrbl, hc⟩ := hs.out.resolve_left (by omega)
      have ck : wr.cell? ⟨rb, off + k, none⟩ = some (.string ⟨(ls.getD k []).toArray⟩) := (hR.out.bel.cell (p := ⟨rb, off + k, none⟩) hrbl).trans (hc k hkl)
      have cR := readE_any (⟨(ls.getD k []).toArray⟩ : ByteArray) wr (by rw [mk_size]; exact hsh.out k)
      rw [bl_mk] at cR
      generalize hS : (⟨(ls.getD k []).toArray⟩ : ByteArray) = S at *
      replace hS := Lib.hid hS
      clear hc
      cases hn : num8 (ls.getD k []) with
      | none =>
        have eV : rdV (ls.getD k []) = .agg #[.int .i64 0, .string ⟨#[]⟩] := by unfold rdV; rw [hn]; rfl
        have eB : rdB (ls.getD k []) = false := by unfold rdB; rw [hn]; rfl
        have hno := allE_not k hkl hn
        rw [eV, eB] at cR
        replace cR := Lib.hid cR
        replace hn := Lib.hid hn
        replace hno := Lib.hid hno
        clear eV eB
        go_wp2_with (first | (go_at_call 75; (with_reducible refine cR.out.mono ?_); rintro e w1 ⟨rfl, hB1⟩; replace hB1 := Lib.hid hB1))
        go_ret2
        refine ⟨⟨_, by rw [hno.out]; rfl, ⟨none, 0, 0, rfl⟩, fun h => absurd h (by rw [hno.out]; simp)⟩, ?_⟩
        have hz := hR.out.bel.size
        exact (hR.out.bel.trans (hB1.out.mono hz)).alloc (Nat.le_trans hz hB1.out.size) _
      | some n =>
        have eV : rdV (ls.getD k []) = .agg #[.int .i64 (n : Nat), .string ⟨((ls.getD k []).drop 8).toArray⟩] := by unfold rdV; rw [hn]; rfl
        have eB : rdB (ls.getD k []) = true := by unfold rdB; rw [hn]; rfl
        have hent := ent_some hn
        rw [eV, eB] at cR
        generalize hT : (⟨((ls.getD k []).drop 8).toArray⟩ : ByteArray) = T at *
        replace hT := Lib.hid hT
        replace cR := Lib.hid cR
        replace hn := Lib.hid hn
        replace hent := Lib.hid hent
        clear eV eB
        have hlen : ((ls.take k).map ent).length = k := by rw [List.length_map, List.length_take]; omega
        have hown := hR.out.own
        have hsh2 := hown
        unfold EOwn at hown
        rw [hlen] at hown
        replace hown := Lib.hid hown
        replace hlen := Lib.hid hlen
        replace hsh2 := Lib.hid hsh2
        go_wp2_with (first | (go_at_call 75; (with_reducible refine cR.out.mono ?_); rintro e w1 ⟨rfl, hB1⟩; replace hB1 := Lib.hid hB1) | (at_builtin; refine wpList_append_own _ rfl _ _ 102 rfl w.heap.size 78 i0 _ 2 24 Try.underlying102 hi.out hz0.out hz1.out hz2.out rfl (by decide) _ k (ecells ((ls.take k).map ent)) rfl ?hown _ 1 1 [.int .i64 (n : Nat), .string T] rfl rfl ?hnews ?hone ?h63 ?hbytes ?hbase ?_))
        case hown =>
          have hO := (hsh2.out.kept hB1.out).kept (((Below.refl _ w1).alloc (Nat.le_refl _) (.cells #[.int .i64 (n : Nat), .string T] 78)).alloc (by simp) (.cells #[.int .i64 (n : Nat), .string T] 78))
          unfold EOwn at hO
          rw [hlen.out] at hO
          exact hO
        case hnews =>
          intro j u hu
          have ha : (⟨w1.heap.size + 1, 0, none⟩ : Addr).add j = ⟨w1.heap.size + 1, j, none⟩ := by unfold Addr.add; split <;> simp_all
          rw [ha, cell_of_row _ (w1.heap.size + 1) j #[.int .i64 (n : Nat), .string T] 78 (0, 0) (heap_alloc2_new w1 _ _)]
          simpa using hu
        case hone => intro u hu; simp at hu; rcases hu with rfl | rfl <;> rfl
        case h63 => unfold maxLen; omega
        case hbytes => omega
        case hbase =>
          have h1 := hB1.out.size
          have h2 := hR.out.bel.size
          simp only [World.size_alloc]
          omega
        intro v' w3 hown' hgrow _
        have hz := hR.out.bel.size
        have hbel : Below w.heap.size w w3 := by
          have h1 := hB1.out.size
          refine ((((hR.out.bel.trans (hB1.out.mono hz)).alloc (by omega) _).alloc (by simp only [World.size_alloc]; omega) _).grown hgrow (by simp only [World.size_alloc]; omega) ?_)
          intro j hj
          exact (hsh2.out.lt j hj).1
        have hOwn' : EOwn w.heap.size w3 v' ((ls.take (k + 1)).map ent) := by
          have e : (ls.take (k + 1)).map ent = (ls.take k).map ent ++ [(n, (ls.getD k []).drop 8)] := by rw [getD_take ls k hkl, List.map_append, List.map_cons, hent.out]; rfl
          unfold EOwn
          rw [e, List.length_append, hlen.out, ecells_snoc]
          have e2 : sv ((ls.getD k []).drop 8) = .string T := by rw [← hT.out]; rfl
          rw [List.map_take]
          show w3.ownsRow w.heap.size 78 2 v' (k + 1) (ecells ((ls.map ent).take k) ++ [Value.int .i64 (n : Nat), sv ((ls.getD k []).drop 8)])
          rw [e2]
          exact hown'
        have hN : Hid (RA w.heap.size w w3 ls (k + 1) v') := Lib.hid ⟨hOwn', hbel, fun i hi => by
          by_cases e : i = k
          · subst e; exact ⟨n, hn.out⟩
          · exact hR.out.good i (by omega)⟩
        clear hown' hgrow hbel hOwn'
        go_wp2_with fail
        go_roundw
        case rel => exact ⟨k + 1, by omega, by go_num, hN⟩
        case measure => simp [intOf]; omega
    · obtain rfl : k = ls.length := by omega
      have hno : allE ls = true := allE_of ls hR.out.good
      have hv := hR.out.own
      rw [List.take_length] at hv
      obtain ⟨p1, cap1, rfl, _⟩ := hv.row
      replace hno := Lib.hid hno
      replace hv := Lib.hid hv
      go_wp2_with fail
      go_ret2
      exact ⟨⟨_, by rw [hno.out]; rfl, ⟨p1, cap1, _, rfl⟩, fun _ => hv.out⟩, hR.out.bel⟩

set_option maxHeartbeats 4000000 in
set_option maxRecDepth 100000 in
theorem inRow_any (B : Nat) (p : Option Addr) (cap base : Nat) (es : List (Nat × List UInt8)) (w : World) (h : EOwn B w (.slice p es.length cap) es) (hl : es.length ≤ 16777216) (hb : base < 4611686018427387904) (hes : ∀ i, (eAt es i).1 < 4611686018427387904) :
    Calls Try.prog 77 #[.slice p es.length cap, .int .i64 (base : Nat)] w fun e w' => (∃ b : Bool, e = .returned (.bool b) ∧ (b = true ↔ rowOk base es)) ∧ Below w.heap.size w w' := by
  obtain ⟨p', cap', e, hr⟩ := h.row
  injection e with e1 e2 e3
  subst e1; subst e3
  replace h := Lib.hid h
  replace hr := Lib.hid hr
  go_enter Try.func77, Try.ntmps77
  go_wp2_with fail
  go_loopw [9] (fun i wr => ∃ k : Nat, k ≤ es.length ∧ i = .int .i64 k ∧ Hid (Below w.heap.size w wr ∧ ∀ i, i < k → (eAt es i).1 = (eAt es 0).1 + i)) (fun i _ => es.length - (intOf i).toNat)
  case atStart => exact ⟨0, by omega, rfl, Lib.hid ⟨Below.refl _ _, fun i hi => absurd hi (by omega)⟩⟩
  case round =>
    obtain ⟨k, hk, rfl, hR⟩ := hrel
    by_cases hkl : k < es.length
    · have hkz : (k : Int) < (es.length : Int) := by omega
      have h0z : (0 : Int) < (es.length : Int) := by omega
      obtain ⟨g, rfl, _, hg, hc⟩ := hr.out.resolve_left (by omega)
      have hbel := hR.out.1
      have ck := (hbel.cell (p := ⟨g, k * 2, none⟩) hg).trans (hc k hkl).1
      have ck1 := (hbel.cell (p := ⟨g, k * 2 + 1, none⟩) hg).trans (hc k hkl).2
      have c0 := (hbel.cell (p := ⟨g, 0 * 2, none⟩) hg).trans (hc 0 (by omega)).1
      have hez := hes 0
      have hsum : IntKind.i64.wrap (((eAt es 0).1 : Int) + (k : Int)) = (((eAt es 0).1 + k : Nat) : Int) := by rw [IntKind.wrap_i64] <;> omega
      unfold sv at ck1
      generalize (⟨(eAt es k).2.toArray⟩ : ByteArray) = T at *
      clear hc
      have hgl : g < wr.heap.size := Nat.lt_of_lt_of_le hg hbel.size
      have c0' : ∀ o, (wr.alloc o).cell? ⟨g, 0 * 2, none⟩ = some (.int .i64 ((eAt es 0).1 : Nat)) := fun o => by rw [World.cell?_alloc_lt _ _ _ hgl]; exact c0
      simp only [Nat.zero_mul] at c0 c0'
      by_cases he : (eAt es k).1 = (eAt es 0).1 + k
      · have hb1 : (((eAt es k).1 : Int) != (((eAt es 0).1 + k : Nat) : Int)) = false := by simp; omega
        have hN : Hid (∀ i, i < k + 1 → (eAt es i).1 = (eAt es 0).1 + i) := Lib.hid fun i hi => by
          by_cases e : i = k
          · subst e; exact he
          · exact hR.out.2 i (by omega)
        have hB2 : Hid (Below w.heap.size w (wr.alloc (.cells #[.int .i64 ((eAt es k).1 : Nat), .string T] 78))) := Lib.hid (hbel.alloc hbel.size _)
        replace hR := Lib.hid hR
        replace he := Lib.hid he
        generalize (eAt es k).1 = x at *
        generalize (eAt es 0).1 = y at *
        go_wp2_with fail
        go_quiet (fail)
        go_wp2_with fail
        go_roundw
        case rel => exact ⟨k + 1, by omega, by go_num, Lib.hid ⟨below_dn hB2.out nq, hN.out⟩⟩
        case measure => simp [intOf]; omega
      · have hb1 : (((eAt es k).1 : Int) != (((eAt es 0).1 + k : Nat) : Int)) = true := by simp; omega
        have hno : ¬ rowOk base es := fun h => he (((rowOk_iff base es (by rintro rfl; simp at hkl)).1 h).1 k hkl)
        have hB2 : Hid (Below w.heap.size w (wr.alloc (.cells #[.int .i64 ((eAt es k).1 : Nat), .string T] 78))) := Lib.hid (hbel.alloc hbel.size _)
        replace hR := Lib.hid hR
        replace he := Lib.hid he
        replace hno := Lib.hid hno
        generalize (eAt es k).1 = x at *
        generalize (eAt es 0).1 = y at *
        go_wp2_with fail
        go_quiet (fail)
        go_wp2_with fail
        go_ret
        exact ⟨⟨false, rfl, by simpa using hno.out⟩, below_dn hB2.out nq⟩
    · obtain rfl : k = es.length := by omega
      have hbel := hR.out.1
      have hall := hR.out.2
      replace hall := Lib.hid hall
      by_cases h0 : es.length = 0
      · have hz : ((es.length : Int) == 0) = true := by rw [h0]; rfl
        have hok : rowOk base es := by rw [List.eq_nil_of_length_eq_zero h0]; trivial
        replace hok := Lib.hid hok
        replace hbel := Lib.hid hbel
        replace h0 := Lib.hid h0
        clear hR
        go_wp2_with fail
        go_ret
        exact ⟨⟨true, rfl, by simpa using hok.out⟩, hbel.out⟩
      · have hz : ((es.length : Int) == 0) = false := by rw [beq_eq_false_iff_ne]; omega
        have h0z : (0 : Int) < (es.length : Int) := by omega
        obtain ⟨g, rfl, _, hg, hc⟩ := hr.out.resolve_left h0
        have c0 := (hbel.cell (p := ⟨g, 0 * 2, none⟩) hg).trans (hc 0 (by omega)).1
        simp only [Nat.zero_mul] at c0
        have hiff := rowOk_iff base es (by rintro rfl; simp at h0)
        replace hc := Lib.hid hc
        have hez := hes 0
        have hsum := IntWalk.i64_in ((base : Int) + 1) (by omega)
        replace hbel := Lib.hid hbel
        replace hiff := Lib.hid hiff
        clear hR
        by_cases h1 : 1 ≤ (eAt es 0).1
        · have hb1 : (1 : Int) ≤ ((eAt es 0).1 : Int) := by omega
          by_cases h2 : (eAt es 0).1 ≤ base + 1
          · have hb2 : ((eAt es 0).1 : Int) ≤ (base : Int) + 1 := by omega
            have hok : rowOk base es := hiff.out.2 ⟨hall.out, h1, h2⟩
            replace hok := Lib.hid hok
            generalize (eAt es 0).1 = y at *
            go_wp2_with fail
            go_ret
            exact ⟨⟨true, rfl, by simpa using hok.out⟩, hbel.out⟩
          · have hb2 : ¬ ((eAt es 0).1 : Int) ≤ (base : Int) + 1 := by omega
            have hok : ¬ rowOk base es := fun h => h2 (hiff.out.1 h).2.2
            replace hok := Lib.hid hok
            generalize (eAt es 0).1 = y at *
            go_wp2_with fail
            go_ret
            exact ⟨.inl ⟨rfl, hok.out⟩, hbel.out⟩
        · have hb1 : ¬ (1 : Int) ≤ ((eAt es 0).1 : Int) := by omega
          have hok : ¬ rowOk base es := fun h => h1 (hiff.out.1 h).2.1
          replace hok := Lib.hid hok
          generalize (eAt es 0).1 = y at *
          go_wp2_with fail
          go_ret
          exact ⟨.inl ⟨rfl, hok.out⟩, hbel.out⟩
end Go.Proofs.Ytidofjjghbhaaaa
namespace Go.Proofs.Ytidofjjghbhaaaa
open Go.RowKit
set_option linter.unusedVariables false

/-- the journal's five cells -/
def nArr (d : Nat) (base : Nat) (text : List UInt8) (v : Value) (br : Bool) : Array Value := #[.pointer (some ⟨d, 0, none⟩), .int .i64 (base : Nat), sv text, v, .bool br]

theorem scan_small : ∀ (n : Nat) (l : List UInt8), l.length ≤ n → ∀ r ∈ (scan l).1, r.length ≤ 65536
  | 0, l, h, r, hr => by
    have : l = [] := List.eq_nil_of_length_eq_zero (by omega)
    subst this
    rw [scan_nil] at hr; cases hr
  | n + 1, l, h, r, hr => by
    cases hs : stop l with
    | some c => rw [scan_stop hs] at hr; cases hr
    | none =>
      have h8 := stop_none hs
      rw [scan_more hs] at hr
      rcases List.mem_cons.1 hr with rfl | hr
      · rw [List.length_take]; omega
      · exact scan_small n (l.drop (8 + num l)) (by simp; omega) r hr
theorem getD_small {ls : List (List UInt8)} {n : Nat} (h : ∀ r ∈ ls, r.length ≤ n) (k : Nat) : (ls.getD k []).length ≤ n := by
  rw [List.getD_eq_getElem?_getD]
  by_cases hk : k < ls.length
  · rw [List.getElem?_eq_getElem hk]; exact h _ (List.getElem_mem hk)
  · rw [List.getElem?_eq_none (by omega)]; exact Nat.zero_le _

/-- what reading the snapshot answers -/
def SnapPost (m : DM) (jb d : Nat) (w : World) (e : Ending) (w' : World) : Prop :=
  ∃ x, e = .returned (.int .i64 x) ∧ Kp (· = jb) w w' ∧
    (match snapOf (m.B 1) with | none => x = 8 | some s => x = 0 ∧ w'.heap[jb]? = some (.cells (nArr d s.1 s.2 (.slice none 0 0) false) 80 (0, 0)))
theorem snapPost_bad {m : DM} {jb d : Nat} {w w' : World} (h : snapOf (m.B 1) = none) (hk : Kp (· = jb) w w') : SnapPost m jb d w (.returned (.int .i64 8)) w' := ⟨8, rfl, hk, by rw [h]⟩

set_option maxHeartbeats 4000000 in
set_option maxRecDepth 100000 in
/-- the snapshot that the disk keeps -/
theorem readSnap_any (P : Nat → Prop) (jb d : Nat) (m : DM) (w : World) (hD : IsD P w d m) (ok : m.Ok) (hj : w.heap[jb]? = some (.cells (nArr d 0 [] (.slice none 0 0) false) 80 (0, 0))) :
    Calls Try.prog 41 #[.pointer (some ⟨jb, 0, none⟩)] w (SnapPost m jb d w) := by
  have hjl := obj_lt hj
  have c0 : w.cell? ⟨jb, 0, none⟩ = some (.pointer (some ⟨d, 0, none⟩)) := obj_cell hj rfl
  have cR := readJ_any P d m 1 w hD
  rw [if_pos (by rfl), if_pos (by rfl)] at cR
  have h1n : (1 : Int).toNat = 1 := rfl
  rw [h1n] at cR
  by_cases he : m.B 1 = []
  · have hs : snapOf (m.B 1) = some (0, []) := by unfold snapOf; rw [if_pos he]
    have hgo : SnapPost m jb d w (.returned (.int .i64 0)) w := ⟨0, rfl, Kp.refl _ _, by rw [hs]; exact ⟨rfl, hj⟩⟩
    rw [he] at cR
    have e0 : sv [] = .string ⟨#[]⟩ := rfl
    rw [e0] at cR
    replace cR := Lib.hid cR
    replace hj := Lib.hid hj
    replace hD := Lib.hid hD
    replace hgo := Lib.hid hgo
    clear he hs
    go_enter Try.func41, Try.ntmps41
    go_wp2_with (first | (go_at_call 50; (with_reducible refine cR.out.mono ?_); rintro e w' ⟨rfl, rfl⟩))
    go_ret
    exact hgo.out
  · have hsn := snapOf_of _ he
    have hs1 : (⟨(m.B 1).toArray⟩ : ByteArray).size ≤ 16777216 := by rw [mk_size]; exact ok.small (by omega)
    have cS := scan_any (⟨(m.B 1).toArray⟩ : ByteArray) w hs1
    rw [bl_mk] at cS
    have hne : (⟨(m.B 1).toArray⟩ : ByteArray).toList.isEmpty = false := by
      rw [ByteArray.toList_eq]
      cases hm : m.B 1 with
      | nil => exact absurd hm he
      | cons a b => rfl
    unfold sv at cR
    generalize hT : (⟨(m.B 1).toArray⟩ : ByteArray) = T1 at *
    replace hT := Lib.hid hT
    have hsh : ∀ k, ((scan (m.B 1)).1.getD k []).length ≤ 65536 := getD_small (scan_small _ _ (Nat.le_refl _))
    generalize scan (m.B 1) = r at *
    obtain ⟨l, en, bh⟩ := r
    simp only at cS hsn hsh
    have hbad : ∀ w', snapOf (m.B 1) = none → Below w.heap.size w w' → SnapPost m jb d w (.returned (.int .i64 8)) w' := fun w' e hB => snapPost_bad e (Kp.of_below hB)
    replace hbad := Lib.hid hbad
    replace cR := Lib.hid cR
    replace cS := Lib.hid cS
    replace hj := Lib.hid hj
    replace hD := Lib.hid hD
    replace he := Lib.hid he
    by_cases h1 : l.length = 1
    · have b1 : (((l.length : Nat) : Int) != 1) = false := by rw [h1]; rfl
      by_cases h2 : bh = 0
      · have b2 : (((bh : Nat) : Int) != 0) = false := by rw [h2]; rfl
        rw [if_pos ⟨h1, h2⟩] at hsn
        have hnn := fun w => readE_any (⟨(l.getD 0 []).toArray⟩ : ByteArray) w (by rw [mk_size]; have := hsh 0; omega)
        rw [bl_mk] at hnn
        obtain ⟨S, hS⟩ : ∃ S : ByteArray, (⟨(l.getD 0 []).toArray⟩ : ByteArray) = S := ⟨_, rfl⟩
        rw [hS] at hnn
        replace hS := Lib.hid hS
        have h1z : 0 < l.length := by omega
        have h1y : (0 : Int) < (l.length : Int) := by omega
        cases hn : num8 (l.getD 0 []) with
        | none =>
          have eV : rdV (l.getD 0 []) = .agg #[.int .i64 0, .string ⟨#[]⟩] := by unfold rdV; rw [hn]; rfl
          have eB : rdB (l.getD 0 []) = false := by unfold rdB; rw [hn]; rfl
          rw [eV, eB] at hnn
          have hs0 : snapOf (m.B 1) = none := by rw [hsn, hn]; rfl
          replace hnn := Lib.hid hnn
          replace hn := Lib.hid hn
          replace hs0 := Lib.hid hs0
          replace hsn := Lib.hid hsn
          replace hsh := Lib.hid hsh
          clear eV eB
          go_enter Try.func41, Try.ntmps41
          go_wp2_with (first
            | (go_at_call 50; (with_reducible refine cR.out.mono ?_); rintro e w' ⟨rfl, rfl⟩)
            | (go_at_call 74; (with_reducible refine cS.out.mono ?_); rintro e w1 ⟨⟨v1, rfl, hO1⟩, hB1⟩; obtain ⟨p1, cap1, rfl, hrow1⟩ := hO1.row; obtain ⟨g1, g2⟩ := hrow1; obtain ⟨rb, off, rfl, hlt, hc⟩ := g2.resolve_left (by omega); have c0 := hc 0 (by omega); rw [Nat.add_zero, hS.out] at c0; clear g2 hc; replace hO1 := Lib.hid hO1; replace hB1 := Lib.hid hB1)
            | (go_at_call 75; (with_reducible refine (hnn.out _).mono ?_); rintro e w2 ⟨rfl, hB2⟩; replace hB2 := Lib.hid hB2))
          go_ret
          exact hbad.out _ hs0.out ((hB1.out.trans (hB2.out.mono hB1.out.size)).alloc (Nat.le_trans hB1.out.size hB2.out.size) _)
        | some n =>
          obtain ⟨hn1, hn2⟩ := num8_lt hn
          have eV : rdV (l.getD 0 []) = .agg #[.int .i64 (n : Nat), .string ⟨((l.getD 0 []).drop 8).toArray⟩] := by unfold rdV; rw [hn]; rfl
          have eB : rdB (l.getD 0 []) = true := by unfold rdB; rw [hn]; rfl
          rw [eV, eB] at hnn
          have hs0 : snapOf (m.B 1) = some (n, (l.getD 0 []).drop 8) := by rw [hsn, hn]; rfl
          generalize hT2 : (⟨((l.getD 0 []).drop 8).toArray⟩ : ByteArray) = T2 at *
          replace hT2 := Lib.hid hT2
          replace hnn := Lib.hid hnn
          replace hn := Lib.hid hn
          replace hs0 := Lib.hid hs0
          replace hsn := Lib.hid hsn
          replace hsh := Lib.hid hsh
          clear eV eB
          go_enter Try.func41, Try.ntmps41
          go_wp2_with (first
            | (go_at_call 50; (with_reducible refine cR.out.mono ?_); rintro e w' ⟨rfl, rfl⟩)
            | (go_at_call 74; (with_reducible refine cS.out.mono ?_); rintro e w1 ⟨⟨v1, rfl, hO1⟩, hB1⟩; obtain ⟨p1, cap1, rfl, hrow1⟩ := hO1.row; obtain ⟨g1, g2⟩ := hrow1; obtain ⟨rb, off, rfl, hlt, hc⟩ := g2.resolve_left (by omega); have c0 := hc 0 (by omega); rw [Nat.add_zero, hS.out] at c0; clear g2 hc; replace hO1 := Lib.hid hO1; replace hB1 := Lib.hid hB1)
            | (go_at_call 75; (with_reducible refine (hnn.out _).mono ?_); rintro e w2 ⟨rfl, hB2⟩; have hB12 := hB1.out.trans (hB2.mono hB1.out.size); have hj2 := (hB12.block jb hjl).trans hj.out; have hjl2 := obj_lt hj2; have a1 : w2.cell? ⟨jb, 1, none⟩ = some (.int .i64 0) := obj_cell hj2 rfl; have a2 : w2.cell? ⟨jb, 2, none⟩ = some (.string ⟨#[]⟩) := obj_cell hj2 rfl; have z2 := obj_free hj2; replace hj2 := Lib.hid hj2; replace hB12 := Lib.hid hB12; clear hB2))
          go_ret
          refine ⟨0, rfl, ((((Kp.of_below (F := (· = jb)) hB12.out).setCell (.inl rfl) _).setCell (.inl rfl) _).alloc _), ?_⟩
          rw [hs0.out]
          refine ⟨rfl, ?_⟩
          have h3 := obj_set (obj_set hj2.out 1 (.int .i64 (n : Nat))) 2 (.string T2)
          rw [heap_alloc_old _ _ (by simpa using hjl2)]
          rw [show Value.string T2 = sv ((l.getD 0 []).drop 8) by rw [← hT2.out]; rfl] at h3 ⊢
          exact h3
      · have b2 : (((bh : Nat) : Int) != 0) = true := by simpa using h2
        have hs0 : snapOf (m.B 1) = none := by rw [hsn, if_neg (by omega)]
        replace hs0 := Lib.hid hs0
        replace hsn := Lib.hid hsn
        replace hsh := Lib.hid hsh
        go_enter Try.func41, Try.ntmps41
        go_wp2_with (first
          | (go_at_call 50; (with_reducible refine cR.out.mono ?_); rintro e w' ⟨rfl, rfl⟩)
          | (go_at_call 74; (with_reducible refine cS.out.mono ?_); rintro e w1 ⟨⟨v1, rfl, hO1⟩, hB1⟩; obtain ⟨p1, cap1, rfl, hrow1⟩ := hO1.row; replace hO1 := Lib.hid hO1; replace hrow1 := Lib.hid hrow1; replace hB1 := Lib.hid hB1))
        go_ret
        exact hbad.out _ hs0.out hB1.out
    · have b1 : (((l.length : Nat) : Int) != 1) = true := by simp; omega
      have hs0 : snapOf (m.B 1) = none := by rw [hsn, if_neg (by omega)]
      replace hs0 := Lib.hid hs0
      replace hsn := Lib.hid hsn
      replace hsh := Lib.hid hsh
      go_enter Try.func41, Try.ntmps41
      go_wp2_with (first
        | (go_at_call 50; (with_reducible refine cR.out.mono ?_); rintro e w' ⟨rfl, rfl⟩)
        | (go_at_call 74; (with_reducible refine cS.out.mono ?_); rintro e w1 ⟨⟨v1, rfl, hO1⟩, hB1⟩; obtain ⟨p1, cap1, rfl, hrow1⟩ := hO1.row; replace hO1 := Lib.hid hO1; replace hrow1 := Lib.hid hrow1; replace hB1 := Lib.hid hB1))
      go_ret
      exact hbad.out _ hs0.out hB1.out

set_option maxHeartbeats 4000000 in
set_option maxRecDepth 100000 in
/-- a file is cut to what it begins with, if more is there -/
theorem shorten_any (P : Nat → Prop) (d : Nat) (m : DM) (f n : Nat) (w : World) (h : IsD P w d m) (ok : m.Ok) (hP : ∀ j, w.heap.size ≤ j → P j) (hf : f < 4) (hn : n ≤ (m.B f).length) :
    Calls Try.prog 45 #[.pointer (some ⟨d, 0, none⟩), .int .i64 (f : Int), .int .i64 (n : Int)] w fun e w' => e = .returned (.int .i64 (cutJ m f n).1) ∧ IsD P w' d (cutJ m f n).2 ∧ Kp P w w' := by
  have cR := readJ_any P d m (f : Int) w h
  rw [if_pos (isFile_of f hf), if_pos (isFile_of f hf), Int.toNat_natCast] at cR
  have hsz : (⟨(m.B f).toArray⟩ : ByteArray).size = (m.B f).length := mk_size _
  unfold sv at cR
  by_cases he : (m.B f).length = n
  · have e : cutJ m f n = (0, m) := if_pos he
    rw [e]
    generalize (⟨(m.B f).toArray⟩ : ByteArray) = T at *
    have hz : (T.size : Int) ≤ (n : Int) := by omega
    replace h := Lib.hid h
    replace cR := Lib.hid cR
    clear e hsz he
    go_enter Try.func45, Try.ntmps45
    go_wp2_with (first | (go_at_call 50; (with_reducible refine cR.out.mono ?_); rintro e w' ⟨rfl, rfl⟩))
    go_ret
    exact ⟨rfl, h.out, Kp.refl _ _⟩
  · have e : cutJ m f n = m.cut (f : Int) (n : Int) := if_neg he
    rw [e]
    have hC := cut_any P d m (f : Int) (n : Int) w h ok hP
    generalize (⟨(m.B f).toArray⟩ : ByteArray) = T at *
    have hz : ¬ (T.size : Int) ≤ (n : Int) := by omega
    generalize m.cut (f : Int) (n : Int) = r at *
    replace h := Lib.hid h
    replace cR := Lib.hid cR
    replace hC := Lib.hid hC
    clear e hsz he
    go_enter Try.func45, Try.ntmps45
    go_wp2_with (first
      | (go_at_call 50; (with_reducible refine cR.out.mono ?_); rintro e w' ⟨rfl, rfl⟩)
      | (go_at_call 67; (with_reducible refine hC.out.mono ?_); rintro e w' ⟨rfl, hD2, hK2⟩; replace hD2 := Lib.hid hD2; replace hK2 := Lib.hid hK2))
    go_ret
    exact ⟨rfl, hD2.out, hK2.out⟩
end Go.Proofs.Ytidofjjghbhaaaa
namespace Go.Proofs.Ytidofjjghbhaaaa
open Go.RowKit
set_option linter.unusedVariables false

theorem ent_lt (x : List UInt8) : (ent x).1 < 4611686018427387904 := by
  unfold ent
  cases hn : num8 x with
  | none => show 0 < 4611686018427387904; decide
  | some n => exact (num8_lt hn).1
theorem eAt_lt (l : List (List UInt8)) (i : Nat) : (eAt (l.map ent) i).1 < 4611686018427387904 := by
  unfold eAt
  rw [List.getD_eq_getElem?_getD, List.getElem?_map]
  cases l[i]? with
  | none => decide
  | some x => exact ent_lt x
/-- what reading the log answers -/
def LogPost (m : DM) (jb d base : Nat) (text : List UInt8) (w : World) (e : Ending) (w' : World) : Prop :=
  ∃ n x : Int, e = .returned (.tuple #[.int .i64 n, .int .i64 x]) ∧ Kp (· = jb) w w' ∧
    ((x = 8 ∧ ((scan (m.B 0)).2.2 = 2 ∨ walkR base none (scan (m.B 0)).1 = none)) ∨
      (x = 0 ∧ (scan (m.B 0)).2.2 ≠ 2 ∧ n = ((scan (m.B 0)).2.1 : Nat) ∧ ∃ rs v, walkR base none (scan (m.B 0)).1 = some rs ∧ w'.heap[jb]? = some (.cells (nArr d base text v false) 80 (0, 0)) ∧ Own w.heap.size w' v rs))
theorem logPost_bad {m : DM} {jb d base : Nat} {text : List UInt8} {w w' : World} (n : Int) (hk : Kp (· = jb) w w') (h : (scan (m.B 0)).2.2 = 2 ∨ walkR base none (scan (m.B 0)).1 = none) : LogPost m jb d base text w (.returned (.tuple #[.int .i64 n, .int .i64 8])) w' :=
  ⟨n, 8, rfl, hk, .inl ⟨rfl, h⟩⟩
theorem logPost_good {m : DM} {jb d base : Nat} {text : List UInt8} {w w' : World} {rs : List (List UInt8)} {v : Value} {n : Int} (hk : Kp (· = jb) w w') (h2 : (scan (m.B 0)).2.2 ≠ 2) (hn : n = ((scan (m.B 0)).2.1 : Nat)) (hw : walkR base none (scan (m.B 0)).1 = some rs)
    (hj : w'.heap[jb]? = some (.cells (nArr d base text v false) 80 (0, 0))) (ho : Own w.heap.size w' v rs) : LogPost m jb d base text w (.returned (.tuple #[.int .i64 n, .int .i64 0])) w' :=
  ⟨n, 0, rfl, hk, .inr ⟨rfl, h2, hn, rs, v, hw, hj, ho⟩⟩

/-- what the loop over the records holds -/
structure LgSt (w3 wr : World) (jb d base : Nat) (text : List UInt8) (es : List (Nat × List UInt8)) (k : Nat) (v : Value) : Prop where
  obj : wr.heap[jb]? = some (.cells (nArr d base text v false) 80 (0, 0))
  own : Own w3.heap.size wr v (above base (es.take k))
  kp : Kp (· = jb) w3 wr
theorem above_few (base : Nat) (es : List (Nat × List UInt8)) (k : Nat) : (above base (es.take k)).length ≤ k := by
  unfold above
  rw [List.length_map]
  refine Nat.le_trans (List.length_filter_le _ _) ?_
  rw [List.length_take]; omega
theorem above_next (base : Nat) (es : List (Nat × List UInt8)) (k : Nat) (h : k < es.length) : above base (es.take (k + 1)) = above base (es.take k) ++ (if base < (eAt es k).1 then [(eAt es k).2] else []) := by
  have e : es.take (k + 1) = es.take k ++ [eAt es k] := by
    unfold eAt
    rw [List.take_succ_eq_append_getElem h, List.getD_eq_getElem?_getD, List.getElem?_eq_getElem h]; rfl
  rw [e]
  unfold above
  rw [List.filter_append, List.map_append]
  congr 1
  by_cases hb : base < (eAt es k).1
  · rw [if_pos hb]; simp [hb]
  · rw [if_neg hb]; simp [hb]

set_option maxHeartbeats 8000000 in
set_option maxRecDepth 100000 in
theorem readLog_any (P : Nat → Prop) (jb d base : Nat) (text : List UInt8) (m : DM) (w : World) (hD : IsD P w d m) (ok : m.Ok) (hb : base < 4611686018427387904) (hj : w.heap[jb]? = some (.cells (nArr d base text (.slice none 0 0) false) 80 (0, 0))) :
    Calls Try.prog 43 #[.pointer (some ⟨jb, 0, none⟩)] w (LogPost m jb d base text w) := by
  have hjl := obj_lt hj
  have c0 : w.cell? ⟨jb, 0, none⟩ = some (.pointer (some ⟨d, 0, none⟩)) := obj_cell hj rfl
  have cR := readJ_any P d m 0 w hD
  rw [if_pos (by rfl), if_pos (by rfl)] at cR
  have h0n : (0 : Int).toNat = 0 := rfl
  rw [h0n] at cR
  have hs1 : (⟨(m.B 0).toArray⟩ : ByteArray).size ≤ 16777216 := by rw [mk_size]; exact ok.small (by omega)
  have cS := scan_any (⟨(m.B 0).toArray⟩ : ByteArray) w hs1
  rw [bl_mk] at cS
  have hbad1 : ∀ w', (scan (m.B 0)).2.2 = 2 → Below w.heap.size w w' → LogPost m jb d base text w (.returned (.tuple #[.int .i64 0, .int .i64 8])) w' := fun w' e hB => logPost_bad 0 (Kp.of_below hB) (.inl e)
  have hbad2 : ∀ w', walkR base none (scan (m.B 0)).1 = none → Below w.heap.size w w' → LogPost m jb d base text w (.returned (.tuple #[.int .i64 0, .int .i64 8])) w' := fun w' e hB => logPost_bad 0 (Kp.of_below hB) (.inr e)
  have hgood : ∀ w' rs v, (scan (m.B 0)).2.2 ≠ 2 → walkR base none (scan (m.B 0)).1 = some rs → Kp (· = jb) w w' → w'.heap[jb]? = some (.cells (nArr d base text v false) 80 (0, 0)) → Own w.heap.size w' v rs →
      LogPost m jb d base text w (.returned (.tuple #[.int .i64 ((scan (m.B 0)).2.1 : Nat), .int .i64 0])) w' := fun w' rs v h2 hw hk hj ho => logPost_good hk h2 rfl hw hj ho
  have hsh : ∀ k, ((scan (m.B 0)).1.getD k []).length ≤ 16777216 := fun k => Nat.le_trans (getD_small (scan_small _ _ (Nat.le_refl _)) k) (by omega)
  have hLl : (scan (m.B 0)).1.length ≤ 16777216 := Nat.le_trans (scan_few _ _ (Nat.le_refl _)) (ok.small (by omega))
  unfold sv at cR
  generalize hT : (⟨(m.B 0).toArray⟩ : ByteArray) = T1 at *
  replace hT := Lib.hid hT
  generalize scan (m.B 0) = r at *
  obtain ⟨l, en, bh⟩ := r
  simp only at cS hsh hbad1 hbad2 hgood hLl
  replace hbad1 := Lib.hid hbad1
  replace hbad2 := Lib.hid hbad2
  replace hgood := Lib.hid hgood
  replace cR := Lib.hid cR
  replace cS := Lib.hid cS
  replace hj := Lib.hid hj
  replace hD := Lib.hid hD
  by_cases h2 : bh = 2
  · have b2 : (((bh : Nat) : Int) == 2) = true := by rw [h2]; rfl
    replace hsh := Lib.hid hsh
    replace h2 := Lib.hid h2
    go_enter Try.func43, Try.ntmps43
    go_wp2_with (first
      | (go_at_call 50; (with_reducible refine cR.out.mono ?_); rintro e w' ⟨rfl, rfl⟩)
      | (go_at_call 74; (with_reducible refine cS.out.mono ?_); rintro e w1 ⟨⟨v1, rfl, hO1⟩, hB1⟩; obtain ⟨p1, cap1, rfl, hrow1⟩ := hO1.row; replace hO1 := Lib.hid hO1; replace hrow1 := Lib.hid hrow1; replace hB1 := Lib.hid hB1))
    go_ret2
    exact hbad1.out _ h2.out hB1.out
  · have b2 : (((bh : Nat) : Int) == 2) = false := by simpa using (show ¬ (bh : Int) = 2 by omega)
    have cA := fun (p : Option Addr) (cap : Nat) (w : World) (hs : SRow w p l.length l) => readAll_any p cap l w hs hsh hLl
    replace hsh := Lib.hid hsh
    replace h2 := Lib.hid h2
    cases hall : allE l with
    | false =>
      rw [hall] at cA
      have hno : walkR base none l = none := (walk_row base l).2 (by rw [hall]; simp)
      replace hno := Lib.hid hno
      replace cA := Lib.hid cA
      clear hall
      go_enter Try.func43, Try.ntmps43
      go_wp2_with (first
        | (go_at_call 50; (with_reducible refine cR.out.mono ?_); rintro e w' ⟨rfl, rfl⟩)
        | (go_at_call 74; (with_reducible refine cS.out.mono ?_); rintro e w1 ⟨⟨v1, rfl, hO1⟩, hB1⟩; obtain ⟨p1, cap1, rfl, hrow1⟩ := hO1.row; replace hO1 := Lib.hid hO1; replace hrow1 := Lib.hid hrow1; replace hB1 := Lib.hid hB1)
        | (go_at_call 76; (with_reducible refine (cA.out _ _ _ hrow1.out).mono ?_); rintro e w2 ⟨⟨v2, rfl, ⟨p2, cap2, n2, rfl⟩, hO2⟩, hB2⟩; replace hO2 := Lib.hid hO2; replace hB2 := Lib.hid hB2))
      go_ret2
      exact hbad2.out _ hno.out (hB1.out.trans (hB2.out.mono hB1.out.size))
    | true =>
      rw [hall] at cA
      have hlen : (l.map ent).length = l.length := List.length_map _
      have hwk := walk_row base l
      rw [hall] at hwk
      have hes : ∀ i, (eAt (l.map ent) i).1 < 4611686018427387904 := eAt_lt l
      have cI := fun (B : Nat) (p : Option Addr) (cap : Nat) (w : World) (h : EOwn B w (.slice p l.length cap) (l.map ent)) => inRow_any B p cap base (l.map ent) w (by rw [hlen]; exact h) (by rw [hlen]; exact hLl) hb hes
      rw [hlen] at cI
      replace hwk := Lib.hid hwk
      replace cA := Lib.hid cA
      replace cI := Lib.hid cI
      have hes0 := Lib.hid hes
      clear hall hes
      go_enter Try.func43, Try.ntmps43
      go_upto_region 8 with (first
        | (go_at_call 50; (with_reducible refine cR.out.mono ?_); rintro e w' ⟨rfl, rfl⟩)
        | (go_at_call 74; (with_reducible refine cS.out.mono ?_); rintro e w1 ⟨⟨v1, rfl, hO1⟩, hB1⟩; obtain ⟨p1, cap1, rfl, hrow1⟩ := hO1.row; replace hO1 := Lib.hid hO1; replace hrow1 := Lib.hid hrow1; replace hB1 := Lib.hid hB1)
        | (go_at_call 76; (with_reducible refine (cA.out _ _ _ hrow1.out).mono ?_); rintro e w2 ⟨⟨v2, rfl, _, hO2⟩, hB2⟩; replace hO2 := hO2 (by simp); obtain ⟨p2, cap2, rfl, hE2⟩ := hO2.row; have hB12 := hB1.out.trans (hB2.mono hB1.out.size); have hj2 := (hB12.block jb hjl).trans hj.out; have a1 : w2.cell? ⟨jb, 1, none⟩ = some (.int .i64 (base : Nat)) := obj_cell hj2 rfl; replace hO2 := Lib.hid hO2; replace hB2 := Lib.hid hB2; replace hE2 := Lib.hid hE2; replace hB12 := Lib.hid hB12; replace hj2 := Lib.hid hj2))
      rw [hlen] at hO2 hE2
      have cI2 := cI.out _ _ _ _ hO2.out
      replace cI2 := Lib.hid cI2
      go_wp2_with fail
      refine cI2.out.mono ?_
      rintro e w3 ⟨⟨b, rfl, hbr⟩, hB3⟩
      cases b with
      | false =>
        have hno : walkR base none l = none := hwk.out.2 (fun h => by have := hbr.2 h.2; cases this)
        replace hno := Lib.hid hno
        replace hB3 := Lib.hid hB3
        replace hbr := Lib.hid hbr
        go_wp2_with fail
        go_ret2
        exact hbad2.out _ hno.out (hB12.out.trans (hB3.out.mono hB12.out.size))
      | true =>
        have hyes : walkR base none l = some (above base (l.map ent)) := hwk.out.1 ⟨by simp, by simpa using hbr⟩
        have hB13 := hB12.out.trans (hB3.mono hB12.out.size)
        have hj3 := (hB13.block jb hjl).trans hj.out
        have hE3 := hO2.out.kept hB3
        replace hyes := Lib.hid hyes
        replace hB3 := Lib.hid hB3
        replace hbr := Lib.hid hbr
        replace hB13 := Lib.hid hB13
        replace hj3 := Lib.hid hj3
        replace hE3 := Lib.hid hE3
        go_wp2_with fail
        go_loopw [51] (fun i wr => ∃ (k : Nat) (va : Value), k ≤ l.length ∧ i = .int .i64 k ∧ Hid (LgSt w3 wr jb d base text (l.map ent) k va)) (fun i _ => l.length - (intOf i).toNat)
        case atStart => exact ⟨0, .slice none 0 0, by omega, rfl, Lib.hid ⟨hj3.out, Own.nil _ _, Kp.refl _ _⟩⟩
        case round =>
          obtain ⟨k, va, hk, rfl, hL⟩ := hrel
          by_cases hkl : k < l.length
          · have hkz : (k : Int) < (l.length : Int) := by omega
            obtain ⟨p3, cap3, rfl, hrow3⟩ := hL.out.own.row
            have hobj := hL.out.obj
            have kp3 := hL.out.kp
            have hO4 := hL.out.own
            have hfew := above_few base (l.map ent) k
            have hnx := above_next base (l.map ent) k (by rw [hlen]; exact hkl)
            generalize hacc : above base ((l.map ent).take k) = acc at *
            replace hacc := Lib.hid hacc
            have k1 : wr.cell? ⟨jb, 1, none⟩ = some (.int .i64 (base : Nat)) := obj_cell hobj rfl
            have k3 : wr.cell? ⟨jb, 3, none⟩ = some (.slice p3 acc.length cap3) := obj_cell hobj rfl
            have z3 := obj_free hobj
            have hjbl := obj_lt hobj
            obtain ⟨p2', cap2', hpe, hr2⟩ := hE3.out.row
            injection hpe with hp1 hp2 hp3
            subst hp1; subst hp3; clear hp2
            obtain ⟨g, rfl, hgw, hgl, hc⟩ := hr2.resolve_left (by rw [hlen]; omega)
            have hgj : g ≠ jb := by have := hB1.out.size; omega
            have ck := kp3.cell (hc k (by rw [hlen]; exact hkl)).1 hgj
            have ck1 := kp3.cell (hc k (by rw [hlen]; exact hkl)).2 hgj
            generalize hE : eAt (l.map ent) k = E at *
            obtain ⟨n, t⟩ := E
            simp only at ck ck1 hnx
            unfold sv at ck1
            generalize ht : (⟨t.toArray⟩ : ByteArray) = X at *
            replace ht := Lib.hid ht
            replace hE := Lib.hid hE
            have k1' : ∀ o, (wr.alloc o).cell? ⟨jb, 1, none⟩ = some (.int .i64 (base : Nat)) := fun o => by rw [World.cell?_alloc_lt _ _ _ hjbl]; exact k1
            replace hobj := Lib.hid hobj
            replace kp3 := Lib.hid kp3
            replace hO4 := Lib.hid hO4
            replace hrow3 := Lib.hid hrow3
            clear hc hr2
            by_cases hbn : base < n
            · have hbz : (base : Int) < (n : Int) := by omega
              rw [if_pos hbn] at hnx
              replace hnx := Lib.hid hnx
              go_wp2_with fail
              go_quiet (fail)
              go_upto_region 14 with (fail)
              have hOV : Own w3.heap.size ((wr.alloc (.cells #[.int .i64 (n : Nat), .string X] 78)).drewN nq) (.slice p3 acc.length cap3) acc := Own.drewN (Own.alloc hO4.out _) nq
              have hKV : Kp (· = jb) w3 ((wr.alloc (.cells #[.int .i64 (n : Nat), .string X] 78)).drewN nq) := (kp3.out.alloc _).drewN nq
              have hjX : ((wr.alloc (.cells #[.int .i64 (n : Nat), .string X] 78)).drewN nq).heap[jb]? = some (.cells (nArr d base text (.slice p3 acc.length cap3) false) 80 (0, 0)) := (Below.heap_alloc _ _ _ hjbl).trans hobj.out
              have hxb : ((wr.alloc (.cells #[.int .i64 (n : Nat), .string X] 78)).drewN nq).cell? ⟨wr.heap.size, 1, none⟩ = some (.string X) := by
                show (wr.alloc (.cells #[.int .i64 (n : Nat), .string X] 78)).cell? _ = _
                rw [cell_of_row _ wr.heap.size 1 _ 78 (0, 0) (heap_alloc_new wr _)]; rfl
              generalize hVV : (wr.alloc (.cells #[.int .i64 (n : Nat), .string X] 78)).drewN nq = V at *
              clear hVV k1 k3 z3 ck ck1 k1'
              have hjVl := obj_lt hjX
              have kV3 : V.cell? ⟨jb, 3, none⟩ = some (.slice p3 acc.length cap3) := obj_cell hjX rfl
              generalize wr.heap.size = bx at *
              have hxl := World.block_lt_of_cell? V _ hxb
              have hxba : ∀ o, (V.drew.alloc o).cell? ⟨bx, 1, none⟩ = some (.string X) := fun o => by rw [World.cell?_alloc_lt _ _ _ (by exact hxl)]; exact hxb
              have hOW : Own w3.heap.size (V.drew.alloc (.cells #[.string X] 9)) (.slice p3 acc.length cap3) acc := Own.alloc (w := V.drew) hOV _
              have hKW : Kp (· = jb) w3 (V.drew.alloc (.cells #[.string X] 9)) := hKV.drew.alloc _
              have hjW : (V.drew.alloc (.cells #[.string X] 9)).heap[jb]? = some (.cells (nArr d base text (.slice p3 acc.length cap3) false) 80 (0, 0)) := (Below.heap_alloc _ _ _ hjVl).trans hjX
              obtain ⟨v6, w6, hrun6, hO7, hG7⟩ := appS_run _ _ _ _ hOW hKW.size (some ⟨V.drew.heap.size, 0, none⟩) 1 1 [bl X] (srow_one V.drew X) (by omega)
              have hK7 : Kp (· = jb) w3 w6 := hKW.grown hG7 (fun k hk => .inr (hOW.lt k hk).1)
              have hj7 := (hG7.block jb (obj_lt hjW) (fun e => by have := (hOW.lt jb e.symm).1; have := hB13.out.size; omega)).trans hjW
              obtain ⟨p6, cap6, rfl, hrow6⟩ := hO7.row
              have c6 : w6.cell? ⟨jb, 3, none⟩ = some (.slice p3 acc.length cap3) := obj_cell hj7 rfl
              have z6 := obj_free hj7
              have k3a : ∀ o, (V.drew.alloc o).cell? ⟨jb, 3, none⟩ = some (.slice p3 acc.length cap3) := fun o => by rw [World.cell?_alloc_lt _ _ _ (by exact hjVl)]; exact kV3
              have hbX : bl X = t := by rw [← ht.out, bl_mk]
              have hfin : LgSt w3 (w6.setCell ⟨jb, 3, none⟩ (.slice p6 (acc ++ [bl X]).length cap6)) jb d base text (l.map ent) (k + 1) (.slice p6 (acc ++ [bl X]).length cap6) := by
                refine ⟨obj_set hj7 3 _, ?_, hK7.setCell (.inl rfl) _⟩
                rw [hnx.out, ← hbX]
                exact hO7.set (by show jb < w3.heap.size; have := hB13.out.size; omega) _
              replace hfin := Lib.hid hfin
              generalize (acc ++ [bl X]).length = n6 at *
              replace hrun6 := Lib.hid hrun6
              replace hj7 := Lib.hid hj7
              replace hO7 := Lib.hid hO7
              replace hrow6 := Lib.hid hrow6
              replace hOW := Lib.hid hOW
              replace hKW := Lib.hid hKW
              replace hOV := Lib.hid hOV
              replace hKV := Lib.hid hKV
              replace hjW := Lib.hid hjW
              replace hjX := Lib.hid hjX
              replace hK7 := Lib.hid hK7
              replace hG7 := Lib.hid hG7
              go_region_law (first | (refine step_appJ rfl _ _ _ _ rfl _ _ _ _ rfl rfl hrun6.out ?_))
              all_goals
                go_wp2_with fail
                go_roundw
                case rel => exact ⟨k + 1, _, by omega, by go_num, hfin⟩
                case measure => simp [intOf]; omega
            · have hbz : ¬ (base : Int) < (n : Int) := by omega
              rw [if_neg hbn, List.append_nil] at hnx
              have hL' : ∀ q, LgSt w3 ((wr.alloc (.cells #[.int .i64 (n : Nat), .string X] 78)).drewN q) jb d base text (l.map ent) (k + 1) (.slice p3 acc.length cap3) := fun q => ⟨(Below.heap_alloc _ _ _ hjbl).trans hobj.out, by rw [hnx]; exact Own.alloc hO4.out _, (kp3.out.alloc _).drewN q⟩
              replace hnx := Lib.hid hnx
              replace hL' := Lib.hid hL'
              go_wp2_with fail
              go_quiet (fail)
              go_wp2_with fail
              go_roundw
              case rel => exact ⟨k + 1, _, by omega, by go_num, Lib.hid (hL'.out nq)⟩
              case measure => simp [intOf]; omega
          · obtain rfl : k = l.length := by omega
            have hkz : ¬ (l.length : Int) < (l.length : Int) := by omega
            have hfin := hL.out
            have hKw : Kp (· = jb) w wr := (Kp.of_below hB13.out).trans hfin.kp
            have hown := hfin.own
            rw [List.take_of_length_le (by rw [hlen]; exact Nat.le_refl _)] at hown
            replace hfin := Lib.hid hfin
            replace hKw := Lib.hid hKw
            replace hown := Lib.hid hown
            go_wp2_with fail
            go_ret2
            exact hgood.out _ _ va h2.out hyes.out hKw.out hfin.out.obj (hown.out.base hB13.out.size)
end Go.Proofs.Ytidofjjghbhaaaa
namespace Go.Proofs.Ytidofjjghbhaaaa
open Go.RowKit
set_option linter.unusedVariables false

theorem enter41 (cb : Array Value) (w : World) : (callFunc 41 cb).run Try.prog w = .ok (.enter 41 cb) w := by kernel_rfl
theorem enter42 (cb : Array Value) (w : World) : (callFunc 42 cb).run Try.prog w = .ok (.enter 42 cb) w := by kernel_rfl
theorem enter44 (cb : Array Value) (w : World) : (callFunc 44 cb).run Try.prog w = .ok (.enter 44 cb) w := by kernel_rfl
theorem enter46 (cb : Array Value) (w : World) : (callFunc 46 cb).run Try.prog w = .ok (.enter 46 cb) w := by kernel_rfl

set_option maxHeartbeats 2000000 in
set_option maxRecDepth 100000 in
theorem open1_any (jb d base bj bs : Nat) (text : List UInt8) (m : DM) (u : Value) (w : World) (hc : Calls Try.prog 43 #[.pointer (some ⟨jb, 0, none⟩)] w (LogPost m jb d base text w)) (hj : w.cell? ⟨bj, 0, none⟩ = some (.pointer (some ⟨jb, 0, none⟩)))
    (hs : w.heap[bs]? = some (.cells #[u] 3 (0, 0))) (hne : bs ≠ jb) :
    Calls Try.prog 42 #[.pointer (some ⟨bj, 0, none⟩), .pointer (some ⟨bs, 0, none⟩)] w fun e w' => ∃ n x w1, e = .returned (.int .i64 x) ∧ w' = w1.setCell ⟨bs, 0, none⟩ (.int .i64 n) ∧ LogPost m jb d base text w (.returned (.tuple #[.int .i64 n, .int .i64 x])) w1 := by
  have hbl := obj_lt hs
  replace hc := Lib.hid hc
  replace hs := Lib.hid hs
  go_enter Try.func42, Try.ntmps42
  go_wp2_with (first
    | (go_at_call 43; (with_reducible refine hc.out.mono ?_); rintro e w1 ⟨n, x, rfl, hK, hL⟩; have hs1 := (hK.block bs hbl hne).trans hs.out; have s1 : w1.cell? ⟨bs, 0, none⟩ = some u := obj_cell hs1 rfl; have z1 := obj_free hs1; have hP : LogPost m jb d base text w (.returned (.tuple #[.int .i64 n, .int .i64 x])) w1 := ⟨n, x, rfl, hK, hL⟩; replace hP := Lib.hid hP; clear hK hL; replace hs1 := Lib.hid hs1))
  go_ret
  exact ⟨n, x, w1, rfl, rfl, hP.out⟩
set_option maxHeartbeats 2000000 in
set_option maxRecDepth 100000 in
theorem open2_any (P : Nat → Prop) (d b0 bs n : Nat) (m : DM) (w : World) (h : IsD P w d m) (ok : m.Ok) (hP : ∀ j, w.heap.size ≤ j → P j) (hn : n ≤ (m.B 0).length) (h0 : w.cell? ⟨b0, 0, none⟩ = some (.pointer (some ⟨d, 0, none⟩))) (hs : w.cell? ⟨bs, 0, none⟩ = some (.int .i64 (n : Int))) :
    Calls Try.prog 44 #[.pointer (some ⟨b0, 0, none⟩), .pointer (some ⟨bs, 0, none⟩)] w fun e w' => e = .returned (.int .i64 (cutJ m 0 n).1) ∧ IsD P w' d (cutJ m 0 n).2 ∧ Kp P w w' := by
  have hc : Calls Try.prog 45 #[.pointer (some ⟨d, 0, none⟩), .int .i64 0, .int .i64 (n : Int)] w fun e w' => e = .returned (.int .i64 (cutJ m 0 n).1) ∧ IsD P w' d (cutJ m 0 n).2 ∧ Kp P w w' := shorten_any P d m 0 n w h ok hP (by omega) hn
  generalize cutJ m 0 n = r at *
  replace hc := Lib.hid hc
  replace h := Lib.hid h
  go_enter Try.func44, Try.ntmps44
  go_wp2_with (first | (go_at_call 45; (with_reducible refine hc.out.mono ?_); rintro e w1 ⟨rfl, hD, hK⟩; replace hD := Lib.hid hD; replace hK := Lib.hid hK))
  go_ret
  exact ⟨rfl, hD.out, hK.out⟩
set_option maxHeartbeats 2000000 in
set_option maxRecDepth 100000 in
theorem open3_any (P : Nat → Prop) (d b0 : Nat) (m : DM) (w : World) (h : IsD P w d m) (ok : m.Ok) (hP : ∀ j, w.heap.size ≤ j → P j) (h0 : w.cell? ⟨b0, 0, none⟩ = some (.pointer (some ⟨d, 0, none⟩))) :
    Calls Try.prog 46 #[.pointer (some ⟨b0, 0, none⟩)] w fun e w' => e = .returned (.int .i64 (cutJ m 2 0).1) ∧ IsD P w' d (cutJ m 2 0).2 ∧ Kp P w w' := by
  have hc : Calls Try.prog 45 #[.pointer (some ⟨d, 0, none⟩), .int .i64 2, .int .i64 0] w fun e w' => e = .returned (.int .i64 (cutJ m 2 0).1) ∧ IsD P w' d (cutJ m 2 0).2 ∧ Kp P w w' := shorten_any P d m 2 0 w h ok hP (by omega) (by omega)
  generalize cutJ m 2 0 = r at *
  replace hc := Lib.hid hc
  replace h := Lib.hid h
  go_enter Try.func46, Try.ntmps46
  go_wp2_with (first | (go_at_call 45; (with_reducible refine hc.out.mono ?_); rintro e w1 ⟨rfl, hD, hK⟩; replace hD := Lib.hid hD; replace hK := Lib.hid hK))
  go_ret
  exact ⟨rfl, hD.out, hK.out⟩

/-- the world ahead of the steps of opening -/
def opW (w : World) (d : Nat) : World := (((w.alloc (.cells #[.pointer (some ⟨d, 0, none⟩)] 26)).alloc (.cells (nArr d 0 [] (.slice none 0 0) false) 80)).alloc (.cells #[.pointer (some ⟨w.heap.size + 1, 0, none⟩)] 35)).alloc (.cells #[.int .i64 0] 3)
/-- .. and with their row -/
def opX (w : World) (d : Nat) : World := (opW w d).alloc (.cells #[.func (.func 41) #[.pointer (some ⟨w.heap.size + 1, 0, none⟩)] #[], .func (.func 42) #[] #[.pointer (some ⟨w.heap.size + 1 + 1, 0, none⟩), .pointer (some ⟨w.heap.size + 1 + 1 + 1, 0, none⟩)],
  .func (.func 44) #[] #[.pointer (some ⟨w.heap.size, 0, none⟩), .pointer (some ⟨w.heap.size + 1 + 1 + 1, 0, none⟩)], .func (.func 46) #[] #[.pointer (some ⟨w.heap.size, 0, none⟩)]] 76)

set_option maxHeartbeats 2000000 in
set_option maxRecDepth 100000 in
theorem opens_try (d : Nat) (w : World) (R : Int → World → Prop) (post : Ending → World → Prop) (hT : Calls Try.prog 40 #[.slice (some ⟨w.heap.size + 1 + 1 + 1 + 1, 0, none⟩) 4 4] (opX w d) fun e w' => ∃ x, e = .returned (.int .i64 x) ∧ R x w')
    (hr : ∀ w', R 0 w' → w'.cell? ⟨w.heap.size + 1 + 1, 0, none⟩ = some (.pointer (some ⟨w.heap.size + 1, 0, none⟩)))
    (hno : ∀ x w', R x w' → x ≠ 0 → post (.returned (.tuple #[.pointer none, .int .i64 x])) w') (hyes : ∀ w', R 0 w' → post (.returned (.tuple #[.pointer (some ⟨w.heap.size + 1, 0, none⟩), .int .i64 0])) w') :
    Calls Try.prog 15 #[.pointer (some ⟨d, 0, none⟩)] w post := by
  replace hT := Lib.hid hT
  replace hr := Lib.hid hr
  replace hno := Lib.hid hno
  replace hyes := Lib.hid hyes
  go_enter Try.func15, Try.ntmps15
  go_upto_region 6 with (first | (go_at_call 40; (refine hT.out.mono ?_); rintro e w1 ⟨x, rfl, hR⟩; replace hR := Lib.hid hR))
  by_cases hx : x = 0
  · subst hx
    have hc := hr.out _ hR.out
    have hp := hyes.out _ hR.out
    replace hp := Lib.hid hp
    go_wp2_with fail
    exact hp.out
  · have hb : (x != 0) = true := by simpa using hx
    have hp := hno.out _ _ hR.out hx
    replace hp := Lib.hid hp
    go_wp2_with fail
    exact hp.out

theorem scan_end : ∀ (n : Nat) (l : List UInt8), l.length ≤ n → (scan l).2.1 ≤ l.length
  | 0, l, h => by
    have : l = [] := List.eq_nil_of_length_eq_zero (by omega)
    subst this
    rw [scan_nil]; exact Nat.le_refl _
  | n + 1, l, h => by
    cases hs : stop l with
    | some c => rw [scan_stop hs]; exact Nat.zero_le _
    | none =>
      have h8 := stop_none hs
      have := scan_end n (l.drop (8 + num l)) (by simp; omega)
      rw [scan_more hs]
      simp only [List.length_drop] at *
      omega
/-- the blocks of what is opened -/
def opP (P : Nat → Prop) (w : World) : Nat → Prop := fun i => (P i ∧ (i < w.heap.size ∨ w.heap.size + 5 ≤ i)) ∨ i = w.heap.size + 1
theorem opX_size (w : World) (d : Nat) : (opX w d).heap.size = w.heap.size + 5 := by unfold opX opW; simp
/-- what the steps of opening have made -/
structure OpSt (P : Nat → Prop) (w : World) (d : Nat) (m m' : DM) (w' : World) : Prop where
  kp : Kp (fun i => opP P w i ∨ i = w.heap.size + 1 + 1 + 1) (opX w d) w'
  bs : w'.cell? ⟨w.heap.size + 1 + 1 + 1, 0, none⟩ = some (.int .i64 ((scan (m.B 0)).2.1 : Nat))
  jrn : ∃ s rs, snapOf (m.B 1) = some s ∧ (scan (m.B 0)).2.2 ≠ 2 ∧ walkR s.1 none (scan (m.B 0)).1 = some rs ∧ IsJ (opP P w) w' (w.heap.size + 1) d m' ⟨s.2, s.1, rs, false⟩
def opR (P : Nat → Prop) (w : World) (d : Nat) (m : DM) : Nat → World → Prop
  | 0, w' => w' = opX w d
  | 1, w' => ∃ s, snapOf (m.B 1) = some s ∧ Kp (· = w.heap.size + 1) (opX w d) w' ∧ w'.heap[w.heap.size + 1]? = some (.cells (nArr d s.1 s.2 (.slice none 0 0) false) 80 (0, 0))
  | 2, w' => OpSt P w d m m w'
  | 3, w' => OpSt P w d m (cutJ m 0 (scan (m.B 0)).2.1).2 w' ∧ (cutJ m 0 (scan (m.B 0)).2.1).1 = 0
  | _, w' => OpSt P w d m (cutJ (cutJ m 0 (scan (m.B 0)).2.1).2 2 0).2 w' ∧ (cutJ m 0 (scan (m.B 0)).2.1).1 = 0 ∧ (cutJ (cutJ m 0 (scan (m.B 0)).2.1).2 2 0).1 = 0
def opT (P : Nat → Prop) (w : World) (d : Nat) (m : DM) (x : Int) (w' : World) : Prop :=
  Kp (fun i => opP P w i ∨ i = w.heap.size + 1 + 1 + 1) (opX w d) w' ∧ (openJ m).1 = x ∧
    (match (openJ m).2.2 with | none => x ≠ 0 ∧ IsD P w' d (openJ m).2.1 | some j => x = 0 ∧ IsJ P w' (w.heap.size + 1) d (openJ m).2.1 j)
theorem heap_of_alloc (w : World) (o : Obj) (i : Nat) : (w.alloc o).heap[i]? = if i = w.heap.size then some o else w.heap[i]? := by
  show (w.heap.push o)[i]? = _
  rw [Array.getElem?_push]
theorem opX_cell {w : World} {d : Nat} : (opX w d).heap[w.heap.size]? = some (.cells #[.pointer (some ⟨d, 0, none⟩)] 26 (0, 0)) ∧ (opX w d).heap[w.heap.size + 1]? = some (.cells (nArr d 0 [] (.slice none 0 0) false) 80 (0, 0)) ∧
    (opX w d).heap[w.heap.size + 1 + 1]? = some (.cells #[.pointer (some ⟨w.heap.size + 1, 0, none⟩)] 35 (0, 0)) ∧ (opX w d).heap[w.heap.size + 1 + 1 + 1]? = some (.cells #[.int .i64 0] 3 (0, 0)) ∧
    (opX w d).heap[w.heap.size + 1 + 1 + 1 + 1]? = some (.cells #[.func (.func 41) #[.pointer (some ⟨w.heap.size + 1, 0, none⟩)] #[], .func (.func 42) #[] #[.pointer (some ⟨w.heap.size + 1 + 1, 0, none⟩), .pointer (some ⟨w.heap.size + 1 + 1 + 1, 0, none⟩)],
      .func (.func 44) #[] #[.pointer (some ⟨w.heap.size, 0, none⟩), .pointer (some ⟨w.heap.size + 1 + 1 + 1, 0, none⟩)], .func (.func 46) #[] #[.pointer (some ⟨w.heap.size, 0, none⟩)]] 76 (0, 0)) := by
  unfold opX opW
  simp only [heap_of_alloc, World.size_alloc]
  refine ⟨?_, ?_, ?_, ?_, ?_⟩ <;> (repeat (first | rw [if_pos rfl] | rw [if_pos trivial] | rw [if_neg (by omega)]))
theorem opX_below (w : World) (d : Nat) : Below w.heap.size w (opX w d) := by
  unfold opX opW
  refine (((((Below.refl _ _).alloc (Nat.le_refl _) _).alloc ?_ _).alloc ?_ _).alloc ?_ _).alloc ?_ _ <;> simp only [World.size_alloc] <;> omega

theorem opW_zero {P : Nat → Prop} {w w' : World} {d : Nat} (hK : Kp (fun i => opP P w i ∨ i = w.heap.size + 1 + 1 + 1) (opX w d) w') :
    w'.cell? ⟨w.heap.size, 0, none⟩ = some (.pointer (some ⟨d, 0, none⟩)) ∧ w'.cell? ⟨w.heap.size + 1 + 1, 0, none⟩ = some (.pointer (some ⟨w.heap.size + 1, 0, none⟩)) ∧
    w'.heap[w.heap.size + 1 + 1 + 1 + 1]? = (opX w d).heap[w.heap.size + 1 + 1 + 1 + 1]? := by
  have hs := opX_size w d
  obtain ⟨h0, h1, h2, h3, h4⟩ := opX_cell (w := w) (d := d)
  have n0 : ∀ i, i = w.heap.size ∨ i = w.heap.size + 1 + 1 ∨ i = w.heap.size + 1 + 1 + 1 + 1 → ¬ (opP P w i ∨ i = w.heap.size + 1 + 1 + 1) := fun i hi => by unfold opP; omega
  exact ⟨hK.cell (obj_cell h0 rfl) (n0 _ (.inl rfl)), hK.cell (obj_cell h2 rfl) (n0 _ (.inr (.inl rfl))), hK.block _ (by omega) (n0 _ (.inr (.inr rfl)))⟩

set_option maxHeartbeats 2000000 in
set_option maxRecDepth 100000 in
theorem opens_any (P : Nat → Prop) (d : Nat) (m : DM) (w : World) (hD : IsD P w d m) (ok : m.Ok) (hP : ∀ i, w.heap.size ≤ i → P i) :
    Calls Try.prog 15 #[.pointer (some ⟨d, 0, none⟩)] w fun e w' => ∃ jb : Nat,
      (e = .returned (.tuple #[(match (openJ m).2.2 with | none => .pointer none | some _ => .pointer (some ⟨jb, 0, none⟩)), .int .i64 (openJ m).1])) ∧
      (match (openJ m).2.2 with | none => IsD P w' d (openJ m).2.1 | some j => IsJ P w' jb d (openJ m).2.1 j) ∧ Kp P w w' := by
  have hs := opX_size w d
  have hB := opX_below w d
  obtain ⟨hx0, hx1, hx2, hx3, hx4⟩ := opX_cell (w := w) (d := d)
  have hkP : ∀ w', Kp (fun i => opP P w i ∨ i = w.heap.size + 1 + 1 + 1) (opX w d) w' → Kp P w w' := fun w' hK => (Kp.of_below (F := P) hB).then hK fun i hi e => by
    unfold opP at e
    rcases e with ((e | e) | e)
    · exact e.1
    · omega
    · omega
  have hpP : ∀ i, opP P w i → P i := fun i e => by
    unfold opP at e
    rcases e with e | e
    · exact e.1
    · exact hP i (by omega)
  have hkX : ∀ w', Kp (fun i => opP P w i ∨ i = w.heap.size + 1 + 1 + 1) (opX w d) w' → (∀ i, w'.heap.size ≤ i → opP P w i) := fun w' hK i hi => .inl ⟨hP i (by have := hK.size; omega), .inr (by have := hK.size; omega)⟩
  have hDX : IsD (fun i => P i ∧ i < w.heap.size) (opX w d) d m := (hD.weak (Q := fun i => P i ∧ i < w.heap.size) fun i hi hp => ⟨hp, hi⟩).kept (Kp.of_below (F := fun _ => False) hB) (fun _ _ _ h => h)
  refine (opens_try d w (opT P w d m) _ (through_any 4 4 (w.heap.size + 1 + 1 + 1 + 1) (fun i => match i with | 0 => 41 | 1 => 42 | 2 => 44 | _ => 46)
    (fun i => match i with | 0 => #[.pointer (some ⟨w.heap.size + 1, 0, none⟩)] | _ => #[])
    (fun i => match i with | 0 => #[] | 1 => #[.pointer (some ⟨w.heap.size + 1 + 1, 0, none⟩), .pointer (some ⟨w.heap.size + 1 + 1 + 1, 0, none⟩)] | 2 => #[.pointer (some ⟨w.heap.size, 0, none⟩), .pointer (some ⟨w.heap.size + 1 + 1 + 1, 0, none⟩)] | _ => #[.pointer (some ⟨w.heap.size, 0, none⟩)])
    (opX w d) (opR P w d m) (opT P w d m) (by omega) ?_ ?_ ?_ rfl ?_) ?_ ?_ ?_)
  · -- the row of steps stays
    intro i w' hi hR
    have hrow : w'.heap[w.heap.size + 1 + 1 + 1 + 1]? = (opX w d).heap[w.heap.size + 1 + 1 + 1 + 1]? := by
      match i, hi, hR with
      | 0, _, hR => rw [hR]
      | 1, _, ⟨_, _, hK, _⟩ => exact hK.block _ (by omega) (by omega)
      | 2, _, hR => exact (opW_zero hR.kp).2.2
      | 3, _, hR => exact (opW_zero hR.1.kp).2.2
    rw [hx4] at hrow
    match i, hi with
    | 0, _ => exact obj_cell hrow rfl
    | 1, _ => exact obj_cell hrow rfl
    | 2, _ => exact obj_cell hrow rfl
    | 3, _ => exact obj_cell hrow rfl
  · intro i w' hi
    match i, hi with
    | 0, _ => exact enter41 _ _
    | 1, _ => exact enter42 _ _
    | 2, _ => exact enter44 _ _
    | 3, _ => exact enter46 _ _
  · intro i w' hi hR
    match i, hi, hR with
    | 0, _, hR =>
      subst hR
      refine (readSnap_any _ (w.heap.size + 1) d m _ hDX ok hx1).mono ?_
      rintro e w' ⟨x, rfl, hK, hM⟩
      refine ⟨x, rfl, fun h0 => ?_, fun h0 => ?_⟩
      · cases hsn : snapOf (m.B 1) with
        | none => rw [hsn] at hM; simp only at hM; omega
        | some s => rw [hsn] at hM; exact ⟨s, hsn, hK, hM.2⟩
      · cases hsn : snapOf (m.B 1) with
        | none =>
          rw [hsn] at hM
          simp only at hM
          subst hM
          have ho : openJ m = (8, m, none) := by unfold openJ; rw [hsn]
          refine ⟨hK.mono fun i _ e => .inl (.inr e), by rw [ho], ?_⟩
          rw [ho]
          exact ⟨h0, (hDX.kept hK (fun i _ hp e => by omega)).weak fun i _ hp => hp.1⟩
        | some s => rw [hsn] at hM; exact absurd hM.1 h0
    | 1, _, ⟨s, hsn, hK, hj⟩ =>
      have hD1 : IsD (fun i => P i ∧ i < w.heap.size) w' d m := hDX.kept hK (fun i _ hp e => by omega)
      have hs1 := hK.size
      have hL := readLog_any _ (w.heap.size + 1) d s.1 s.2 m w' hD1 ok (snapOf_lt hsn) hj
      have hbs := (hK.block (w.heap.size + 1 + 1 + 1) (by omega) (by omega)).trans hx3
      have hbj := hK.cell (obj_cell hx2 (i := 0) rfl) (by show ¬ (w.heap.size + 1 + 1 = w.heap.size + 1); omega)
      refine (open1_any (w.heap.size + 1) d s.1 (w.heap.size + 1 + 1) (w.heap.size + 1 + 1 + 1) s.2 m _ w' hL hbj hbs (by omega)).mono ?_
      rintro e w'' ⟨n, x, w1, rfl, rfl, n', x', he, hK1, hor⟩
      injection he with he
      injection he with he
      simp only [Array.mk.injEq, List.cons.injEq, Value.int.injEq, true_and, and_true] at he
      obtain ⟨rfl, rfl⟩ := he
      have hs2 := hK1.size
      have hbs1 := (hK1.block (w.heap.size + 1 + 1 + 1) (by omega) (by omega)).trans hbs
      have hkp : Kp (fun i => opP P w i ∨ i = w.heap.size + 1 + 1 + 1) (opX w d) (w1.setCell ⟨w.heap.size + 1 + 1 + 1, 0, none⟩ (.int .i64 n)) :=
        ((hK.trans hK1).mono (G := fun i => opP P w i ∨ i = w.heap.size + 1 + 1 + 1) fun i _ e => .inl (.inr e)).setCell (.inl (.inr rfl)) _
      have hD2 : IsD (fun i => P i ∧ i < w.heap.size) (w1.setCell ⟨w.heap.size + 1 + 1 + 1, 0, none⟩ (.int .i64 n)) d m :=
        (hD1.kept hK1 (fun i _ hp e => by omega)).kept (F := (· = w.heap.size + 1 + 1 + 1)) (Kp.setCell (F := (· = w.heap.size + 1 + 1 + 1)) (Kp.refl _ w1) (p := ⟨w.heap.size + 1 + 1 + 1, 0, none⟩) (.inl rfl) _) (fun i _ hp e => by omega)
      refine ⟨x, rfl, fun h0 => ?_, fun h0 => ?_⟩
      · rcases hor with ⟨h8, _⟩ | ⟨_, h2, hn, rs, v, hw, hj1, hO⟩
        · omega
        · obtain ⟨p, cap, rfl, _⟩ := hO.row
          have hadr := fun a ha => (hO.addr (a := a) ha).1
          refine ⟨hkp, by rw [hn] at *; exact obj_cell (obj_set hbs1 0 _) rfl, s, rs, hsn, h2, hw, p, cap, ?_⟩
          refine ⟨hD2.weak fun i _ hp => ⟨.inl ⟨hp.1, .inl hp.2⟩, by omega, fun a ha e => ?_⟩, ?_, (hO.set (by show w.heap.size + 1 + 1 + 1 < w'.heap.size; omega) _).base (Nat.zero_le _), fun a ha => ?_, .inr rfl⟩
          · have := (hO.lt a.block (hadr a ha)).1; omega
          · rw [obj_other _ (by show w.heap.size + 1 ≠ w.heap.size + 1 + 1 + 1; omega)]; exact hj1
          · have := hO.lt a.block (hadr a ha)
            exact ⟨.inl ⟨hP _ (by omega), .inr (by omega)⟩, by omega, by simpa using this.2⟩
      · rcases hor with ⟨h8, hb⟩ | ⟨h8, _⟩
        · have ho : openJ m = (8, m, none) := by
            unfold openJ
            rw [hsn]
            simp only
            rcases hb with hb | hb
            · rw [if_pos hb]
            · rw [hb]; split <;> rfl
          subst h8
          refine ⟨hkp, by rw [ho], ?_⟩
          rw [ho]
          exact ⟨h0, hD2.weak fun i _ hp => hp.1⟩
        · exact absurd h8 h0
    | 2, _, ⟨hkp, hbs, s, rs, hsn, h2, hw, p, cap, hJ⟩ =>
      have ho : openJ m = openCut m (scan (m.B 0)).2.1 ⟨s.2, s.1, rs, false⟩ := by unfold openJ; rw [hsn]; simp only; rw [if_neg h2, hw]
      refine (open2_any _ d w.heap.size (w.heap.size + 1 + 1 + 1) (scan (m.B 0)).2.1 m w' hJ.disk ok (hJ.new (hkX _ hkp)) (scan_end _ _ (Nat.le_refl _)) (opW_zero hkp).1 hbs).mono ?_
      rintro e w'' ⟨rfl, hD2, hK2⟩
      have hkp2 := hkp.trans ((dP_kp hK2).mono (G := fun i => opP P w i ∨ i = w.heap.size + 1 + 1 + 1) fun i _ e => .inl e)
      have hbs2 := hK2.cell hbs (fun e => by have := e.1; unfold opP at this; simp at this; omega)
      have hJ2 := hJ.disked hD2 hK2
      refine ⟨_, rfl, fun h0 => ⟨⟨hkp2, hbs2, s, rs, hsn, h2, hw, p, cap, hJ2⟩, h0⟩, fun h0 => ?_⟩
      unfold openCut at ho
      rw [if_neg h0] at ho
      refine ⟨hkp2, by rw [ho], ?_⟩
      rw [ho]
      exact ⟨h0, (IsJ.disk ⟨p, cap, hJ2⟩).weak fun i hi hp => hpP i hp⟩
    | 3, _, ⟨⟨hkp, hbs, s, rs, hsn, h2, hw, p, cap, hJ⟩, hc0⟩ =>
      have ho : openJ m = openCut m (scan (m.B 0)).2.1 ⟨s.2, s.1, rs, false⟩ := by unfold openJ; rw [hsn]; simp only; rw [if_neg h2, hw]
      refine (open3_any _ d w.heap.size _ w' hJ.disk (okCutJ ok _ _) (hJ.new (hkX _ hkp)) (opW_zero hkp).1).mono ?_
      rintro e w'' ⟨rfl, hD2, hK2⟩
      have hkp2 := hkp.trans ((dP_kp hK2).mono (G := fun i => opP P w i ∨ i = w.heap.size + 1 + 1 + 1) fun i _ e => .inl e)
      have hbs2 := hK2.cell hbs (fun e => by have := e.1; unfold opP at this; simp at this; omega)
      have hJ2 := hJ.disked hD2 hK2
      refine ⟨_, rfl, fun h0 => ⟨⟨hkp2, hbs2, s, rs, hsn, h2, hw, p, cap, hJ2⟩, hc0, h0⟩, fun h0 => ?_⟩
      unfold openCut at ho
      rw [if_pos hc0, if_neg h0] at ho
      refine ⟨hkp2, by rw [ho], ?_⟩
      rw [ho]
      exact ⟨h0, (IsJ.disk ⟨p, cap, hJ2⟩).weak fun i hi hp => hpP i hp⟩
  · rintro w' ⟨⟨hkp, hbs, s, rs, hsn, h2, hw, p, cap, hJ⟩, hc0, hc1⟩
    have ho : openJ m = openCut m (scan (m.B 0)).2.1 ⟨s.2, s.1, rs, false⟩ := by unfold openJ; rw [hsn]; simp only; rw [if_neg h2, hw]
    unfold openCut at ho
    rw [if_pos hc0, if_pos hc1] at ho
    refine ⟨hkp, by rw [ho], ?_⟩
    rw [ho]
    exact ⟨rfl, (IsJ.weak ⟨p, cap, hJ⟩ fun i hi hp => hpP i hp)⟩
  · rintro w' ⟨hkp, _⟩
    exact (opW_zero hkp).2.1
  · rintro x w' ⟨hkp, ho, hm⟩ hx
    cases hoj : (openJ m).2.2 with
    | none => rw [hoj] at hm; exact ⟨0, by rw [ho], hm.2, hkP _ hkp⟩
    | some j => rw [hoj] at hm; exact absurd hm.1 hx
  · rintro w' ⟨hkp, ho, hm⟩
    cases hoj : (openJ m).2.2 with
    | none => rw [hoj] at hm; exact absurd rfl hm.1
    | some j => rw [hoj] at hm; exact ⟨w.heap.size + 1, by rw [ho], hm.2, hkP _ hkp⟩
end Go.Proofs.Ytidofjjghbhaaaa
