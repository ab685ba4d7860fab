/- The contract of Text. -/
import Derived.Test.YtflbggehgjllcaaDoorDP
import Derived.Test.YtflbggehgjllcaaDoorDJ
import Derived.Laws.MakeOwn
import Derived.Lib.AppendStr
import Derived.Laws.IdiomStrings
import Derived.Laws.BytesArg
namespace Go.Proofs.YtflbggehgjllcaaDoor
open Go.RowKit Go.Maps
set_option linter.unusedVariables false

/-- a text as a value -/
def sv (l : List UInt8) : Value := .string ⟨l.toArray⟩
/-- an entry's numbers -/
def En.num (e : En) : Nat → Int
  | 0 => e.d.id
  | 1 => e.d.a
  | 2 => e.d.b
  | 3 => e.d.sc
  | 4 => e.d.bc
  | 5 => e.d.s
  | 6 => e.d.t
  | 7 => e.st
  | 8 => e.ask
  | _ => e.nth
/-- the bytes of the first k numbers -/
def entK (e : En) : Nat → List UInt8
  | 0 => []
  | k + 1 => entK e k ++ bes (sz k) (toU (e.num k))
def entB (e : En) : List UInt8 := entK e 10
theorem entK_length (e : En) : ∀ k, k ≤ 10 → (entK e k).length = off k
  | 0, _ => rfl
  | k + 1, h => by rw [entK, List.length_append, entK_length e k (by omega), bes_length, off_succ k (by omega)]
theorem entB_length (e : En) : (entB e).length = 28 := entK_length e 10 (by omega)
def ents (l : List En) : List UInt8 := l.flatMap entB
theorem ents_length (l : List En) : (ents l).length = l.length * 28 := by
  unfold ents
  induction l with
  | nil => rfl
  | cons x r ih => rw [List.flatMap_cons, List.length_append, ih, entB_length, List.length_cons]; omega
theorem ents_succ {l : List En} {k : Nat} (h : k < l.length) : ents (l.take (k + 1)) = ents (l.take k) ++ entB l[k] := by
  unfold ents; rw [List.take_succ_eq_append_getElem h, List.flatMap_append]; simp
def Bk.text (b : Bk) : List UInt8 := bes 2 (toU (b.l.length : Nat)) ++ ents b.l
theorem idx67 (e : En) (w : World) : ∀ k, k < 10 → (Instr.index 67 e.nums (.int .i64 (k : Nat))).run Tryd.prog w = .ok (.int .i64 (e.num k)) w :=
  ten (by kernel_rfl) (by kernel_rfl) (by kernel_rfl) (by kernel_rfl) (by kernel_rfl) (by kernel_rfl) (by kernel_rfl) (by kernel_rfl) (by kernel_rfl) (by kernel_rfl)
theorem row_text {w : World} {v : Value} {l : List UInt8} (h : Row w v l) : (convert 62 9 v).run Tryd.prog w = .ok (sv l) w := by
  rcases h.2 with ⟨rfl, h0⟩ | ⟨g, cap, cur, rfl, hb, hh, hn, hc, hs, ht⟩
  · have : l = [] := List.eq_nil_of_length_eq_zero h0
    subst this
    exact run_convert_bytes_nil w 62 5 Tryd.underlying62 Tryd.underlying5 0 0 9 Tryd.underlying9
  · refine run_convert_bytes_back w 62 9 5 ⟨g, 0, none⟩ cap l Tryd.underlying62 Tryd.underlying5 Tryd.underlying9 (fun j hj => ?_)
    have ha : (⟨g, 0, none⟩ : Addr).add j = ⟨g, j, none⟩ := by unfold Addr.add; split <;> simp_all
    rw [ha, cell_of_row w g j cur 5 (0, 0) hh]
    rw [Nat.mul_one] at ht
    have e : (Lib.byteCells l)[j]? = cur[j]? := by
      rw [← ht, List.getElem?_take, if_pos hj, Array.getElem?_toList]
    rw [← e]
    simp [Lib.byteCells, hj]
def zb (n : Nat) : Array Value := (Lib.byteCells (List.replicate n 0)).toArray
theorem made_zb (n : Nat) : madeCells #[Value.int .u8 0] n = zb n := by
  unfold zb Lib.byteCells
  apply Array.ext
  · simp [size_madeCells]
  · intro i h1 h2
    simp [madeCells, Nat.mod_one]
/-- Text's way -/
structure TS (w wr : World) (b : Value) (l : List UInt8) : Prop where
  row : Row wr b l
  blw : Below w.heap.size w wr
  own : ∀ g, b.ownBlock = some g → w.heap.size ≤ g
theorem TS.step {w wr w' : World} {b d : Value} {l m : List UInt8} (h : TS w wr b l) (k : Laid wr w' b d m) : TS w w' d m :=
  ⟨k.row, h.blw.trans (k.kp.below h.blw.size fun j hj e => by have := h.own j e; omega), fun g hg => by
    rcases k.own g hg with e | e
    · exact h.own g e
    · exact Nat.le_trans h.blw.size e⟩
theorem TS.below {w wr w' : World} {b : Value} {l : List UInt8} (h : TS w wr b l) (hb : Below wr.heap.size wr w') : TS w w' b l :=
  ⟨h.row.kept fun g hg => hb.block g (h.row.lt g hg), h.blw.trans (hb.mono h.blw.size), h.own⟩
theorem make_room (n : Nat) (hn : n ≤ 1000000) (w : World) :
    (Instr.makeSlice 62 (.int .i64 0) (.int .i64 (n : Int))).run Tryd.prog w = .ok (.slice (some ⟨w.heap.size, 0, none⟩) 0 n) (w.alloc (.cells (zb n) 5)) := by
  obtain ⟨i0, hi, hz0, hz1, hz2⟩ := info_parts info5
  have hb : (i0.bytes : Int) * (n : Int) ≤ 281474976710656 := by rw [hz2]; omega
  have hr := run_make (P := Tryd.prog) w 62 5 i0 (.int .u8 0) Tryd.underlying62 hi hz0 .i64 .i64 0 n (by omega) (by omega) hb (by omega)
  simp only [Int.toNat_natCast, Int.toNat_zero, hz1, Nat.mul_one] at hr
  rw [hr, ← made_zb]
  rfl
theorem Row.room (w : World) (n : Nat) (hn : n ≤ 1000000) : Row (w.alloc (.cells (zb n) 5)) (.slice (some ⟨w.heap.size, 0, none⟩) 0 n) [] :=
  ⟨rfl, .inr ⟨w.heap.size, n, zb n, rfl, Nat.zero_le _, heap_alloc_new w _, Nat.zero_le _, by unfold maxLen; omega, by unfold zb Lib.byteCells; simp, by simp [Lib.byteCells]⟩⟩
section
variable {P : Nat → Prop} {w : World} {gb : Nat} {b : Bk} {v : Value} {mb : Nat} {D : DataW Value}
set_option maxHeartbeats 4000000 in
set_option maxRecDepth 100000 in
theorem text_any (h : PB P w gb b) (hlen : b.l.length ≤ 1000) (hZ : SZ w) :
    Calls Tryd.prog 11 #[.pointer (some ⟨gb, 0, none⟩)] w fun e w' => e = .returned (sv b.text) ∧ Below w.heap.size w w' := by
  obtain ⟨v, mb, D, h⟩ := h
  have c2 : w.cell? ⟨gb, 2, none⟩ = some v := obj_cell h.obj rfl
  obtain ⟨p, cap, rfl, -, -, hps⟩ := orow_shape h.row
  have hgp : ∀ k, k < b.l.length → ∃ g, p = some ⟨g, 0, none⟩ := fun k hk => by
    obtain ⟨g, c1, cur, e1, _⟩ := orow_some h.row (by omega)
    injection e1 with e1 _ _
    exact ⟨g, e1⟩
  obtain ⟨R, hR⟩ : ∃ R, R = b.text := ⟨_, rfl⟩
  rw [← hR]
  clear hps
  obtain ⟨n, hn⟩ : ∃ n, n = b.l.length := ⟨_, rfl⟩
  have hn1 : n ≤ 1000 := by omega
  rw [← hn] at c2 hgp
  have cts := fun w => textSize_any n w (by omega)
  obtain ⟨N, hN⟩ : ∃ N, N = 2 + n * 28 := ⟨_, rfl⟩
  have hN1 : N ≤ 1000000 := by omega
  rw [← hN] at cts
  replace hN := Lib.hid hN
  have hmk := fun w => make_room N (by omega) w
  have hgl := h.lt
  replace h := Lib.hid h
  replace hn := Lib.hid hn
  replace hgp := Lib.hid hgp
  replace hR := Lib.hid hR
  replace hZ := Lib.hid hZ
  replace cts := Lib.hid cts
  have c2a : ∀ o, (w.alloc o).cell? ⟨gb, 2, none⟩ = some (.slice p n cap) := fun o => by rw [World.cell?_alloc_lt _ _ _ hgl]; exact c2
  have hlay : ∀ W : World, W.heap = (w.alloc (.cells (zb N) 5)).heap → Calls Tryd.prog 29 #[.slice (some ⟨w.heap.size, 0, none⟩) 0 N, .int .i64 (n : Int), .int .i64 2] W fun e w' => ∃ b, e = .returned b ∧ Laid W w' (.slice (some ⟨w.heap.size, 0, none⟩) 0 N) b ([] ++ bes 2 (toU (n : Nat))) := fun W hW =>
    lay_any _ [] (n : Nat) 2 W ((Row.room w N hN1).kept fun g hg => by rw [hW]) (by omega) (by simp)
  have hlay0 := Lib.hid (hlay (w.alloc (.cells (zb N) 5)).drew rfl)
  clear hlay
  have hT0 : Hid (TS w (w.alloc (.cells (zb N) 5)).drew (.slice (some ⟨w.heap.size, 0, none⟩) 0 N) []) := Lib.hid ⟨Row.room w N hN1, ((Below.refl _ _).alloc (Nat.le_refl _) _).drew, fun g hg => by simp [Value.ownBlock] at hg; omega⟩
  go_enter Tryd.func11, Tryd.ntmps11
  go_wp2_with fail

  go_cut [3] from 8 to 20 (fun u wr => Hid (TS w wr u (bes 2 (toU (n : Nat)))))
  case first =>
    go_region_with (first | (go_at_call 30; (with_reducible refine (cts.out _).mono ?_); rintro e w1 ⟨rfl, rfl⟩) | (go_at_call 29; (with_reducible refine hlay0.out.mono ?_); rintro e w1 ⟨u, rfl, hL⟩))
    all_goals
      go_wp2_with fail
      go_meet
      case rel => exact Lib.hid (hT0.out.step hL)
  case rest =>
    have hSt := hcut
    have c2c : wc.cell? ⟨gb, 2, none⟩ = some (.slice p n cap) := (hSt.out.blw.cell (p := ⟨gb, 2, none⟩) hgl).trans c2
    go_wp2_with fail
    go_loopw [3, 26] (fun d i wr => ∃ k : Nat, k ≤ n ∧ i = .int .i64 (k : Int) ∧ Hid (TS w wr d (bes 2 (toU (n : Nat)) ++ ents (b.l.take k)))) (fun _ i _ => n - (intOf i).toNat)
    case atStart => exact ⟨0, by omega, rfl, Lib.hid (by have := hSt.out; unfold ents; simpa using this)⟩
    case round =>
      obtain ⟨k, hk, rfl, hS⟩ := hrel
      by_cases hkn : k < n
      · obtain ⟨g, rfl⟩ := hgp.out k hkn
        have hkb : k < b.l.length := by have := hn.out; omega
        have hpb := h.out.below hS.out.blw
        obtain ⟨e0, e1, e2, e3, e4, e5, e6, e7, e8, e9⟩ := hpb.entry (i := k) hkb rfl
        have hglr : g < wr.heap.size := (World.ownsRow.lt hpb.row g rfl).2
        have hents := ents_succ hkb
        have hel := ents_length (b.l.take k)
        have hkl : (b.l.take k).length = k := by rw [List.length_take]; omega
        rw [hkl] at hel
        generalize b.l[k] = x at *
        have hkz : (k : Int) < (n : Int) := by omega
        have hno := fun w => numbersOf_any x w
        have hS1 : ∀ o, Hid (TS w (wr.alloc o) u3 (bes 2 (toU (n : Nat)) ++ ents (b.l.take k))) := fun o => Lib.hid (hS.out.below ((Below.refl _ _).alloc (Nat.le_refl _) _))
        unfold En.val at hno
        replace hno := Lib.hid hno
        replace hents := Lib.hid hents
        replace hel := Lib.hid hel
        obtain ⟨A, hA⟩ : ∃ A, A = bes 2 (toU (n : Nat)) ++ ents (b.l.take k) := ⟨_, rfl⟩
        have hAl : A.length ≤ 100000 := by rw [hA, List.length_append, bes_length, hel.out]; omega
        rw [← hA] at hS1
        have hfinA : bes 2 (toU (n : Nat)) ++ ents (b.l.take (k + 1)) = A ++ entB x := by rw [hents.out, ← List.append_assoc, ← hA]
        replace hA := Lib.hid hA
        replace hfinA := Lib.hid hfinA
        clear hpb
        go_wp2_with (go_at_call 31; (with_reducible refine (hno.out _).mono ?_); rintro e w1 ⟨rfl, hb1⟩; have hS2 := Lib.hid ((hS1 _).out.below hb1); replace hb1 := Lib.hid hb1)
        go_loopw [3, 32] (fun d i wr2 => ∃ j : Nat, j ≤ 10 ∧ i = .int .i64 (j : Int) ∧ Hid (TS w wr2 d (A ++ entK x j))) (fun _ i _ => 10 - (intOf i).toNat)
        case atStart => exact ⟨0, by omega, rfl, Lib.hid (by have := hS2.out; unfold entK; simpa using this)⟩
        case round =>
          obtain ⟨j, hj, rfl, hT⟩ := hrel
          by_cases hjn : j < 10
          · have hix := fun w => idx67 x w j hjn
            have hzj : wr.cell? ⟨0, j, none⟩ = some (.int .i64 (sz j : Nat)) := (hZ.out.below hT.out.blw) j hjn
            have h8 := sz_le j hjn
            have hjz : (j : Int) < 10 := by omega
            have hkl2 := entK_length x j (by omega)
            have ho := off_le j hjn
            have cl := fun W => fun hW => lay_any u3 (A ++ entK x j) (x.num j) (sz j) W hW h8 (by rw [List.length_append, hkl2]; omega)
            have cl2 := cl wr hT.out.row
            have hstep : ∀ w' d, Laid wr w' u3 d (A ++ entK x j ++ bes (sz j) (toU (x.num j))) → TS w w' d (A ++ entK x (j + 1)) := fun w' d hl => by
              have h9 := hT.out.step hl
              rw [List.append_assoc] at h9
              exact h9
            generalize sz j = z at *
            generalize x.num j = y at *
            clear cl
            replace cl2 := Lib.hid cl2
            replace hstep := Lib.hid hstep
            go_wp2_with (go_at_call 29; (with_reducible refine cl2.out.mono ?_); rintro e w3 ⟨d, rfl, hL⟩; replace hL := Lib.hid hL)
            go_roundw
            case rel => exact ⟨j + 1, by omega, by go_num, Lib.hid (hstep.out _ _ hL.out)⟩
            case measure => simp [intOf]; omega
          · obtain rfl : j = 10 := by omega
            have hjz : ¬ (10 : Int) < 10 := by omega
            go_wp2_with fail
            go_roundw
            case rel => exact ⟨k + 1, by omega, by go_num, Lib.hid (by rw [hfinA.out]; exact hT.out)⟩
            case measure => simp [intOf]; omega
      · obtain rfl : k = n := by omega
        have hkz : ¬ (k : Int) < (k : Int) := by omega
        have hT := hS.out
        have hfin : bes 2 (toU (k : Nat)) ++ ents (b.l.take k) = R := by rw [hR.out]; unfold Bk.text; have := hn.out; rw [this, List.take_length]
        rw [hfin] at hT
        have htx := row_text hT.row
        have hblw := hT.blw
        replace hblw := Lib.hid hblw
        replace hfin := Lib.hid hfin
        clear hT
        go_wp2_with fail
        go_ret
        exact ⟨rfl, hblw.out⟩
end
end Go.Proofs.YtflbggehgjllcaaDoor
