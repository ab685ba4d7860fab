/- The contracts of strings.Clone and of frame's Scan. -/
import Derived.Test.YtidofjjghbhaaaaK5
import Derived.Test.YtidofjjghbhaaaaShelf
import Derived.Laws.OwnMore
import Derived.Laws.AppendOwn
namespace Go.Proofs.Ytidofjjghbhaaaa
open Go.RowKit
set_option linter.unusedVariables false

theorem clone_any (s : ByteArray) (w : World) (hs : s.size ≤ 281474976710656) :
    Calls Try.prog 89 #[.string s] w fun e w' => e = .returned (.string s) ∧ Below w.heap.size w w' := by
  go_enter Try.func89, Try.ntmps89
  go_wp2_with (go_at_call 93; refine (Try.stringslite_Clone s _ hs).mono ?_; rintro e w' ⟨rfl, hb⟩)
  go_ret
  exact ⟨rfl, hb⟩

theorem Try.info9 : (Try.prog.info? 9).map (fun i => (i.zero, i.size, i.bytes)) = some (some (.string ⟨#[]⟩), 1, 16) := by kernel_rfl

/-- a slice of texts of the call's own -/
def Own (B : Nat) (w : World) (v : Value) (ls : List (List UInt8)) : Prop := w.ownsRow B 9 1 v ls.length (ls.map sv)
theorem Own.row {B : Nat} {w : World} {v : Value} {ls : List (List UInt8)} (h : Own B w v ls) : ∃ p cap, v = .slice p ls.length cap ∧ SRow w p ls.length ls := by
  obtain ⟨hlen, h⟩ := h
  rcases h with ⟨rfl, h0⟩ | ⟨g, cap, cur, rfl, hg, hh, hn, hm, hsz, htk⟩
  · exact ⟨none, 0, by rw [h0], rfl, .inl h0⟩
  · refine ⟨_, cap, rfl, rfl, .inr ⟨g, 0, rfl, (Array.getElem?_eq_some_iff.1 hh).1, fun i hi => ?_⟩⟩
    rw [Nat.zero_add, cell_of_row w g i cur 9 (0, 0) hh]
    have e : (ls.map sv)[i]? = cur[i]? := by
      rw [← htk, List.getElem?_take, if_pos (by omega), Array.getElem?_toList]
    rw [← e, List.getElem?_map, List.getD_eq_getElem?_getD, List.getElem?_eq_getElem hi]
    rfl
theorem Own.lt {B : Nat} {w : World} {v : Value} {ls : List (List UInt8)} (h : Own B w v ls) : ∀ k, v.ownBlock = some k → B ≤ k ∧ k < w.heap.size := World.ownsRow.lt h
theorem Own.kept {B : Nat} {w w' : World} {v : Value} {ls : List (List UInt8)} (h : Own B w v ls) (hb : Below w.heap.size w w') : Own B w' v ls := by
  obtain ⟨hlen, h⟩ := h
  refine ⟨hlen, h.imp id ?_⟩
  rintro ⟨g, cap, cur, rfl, hg, hh, r⟩
  exact ⟨g, cap, cur, rfl, hg, (hb.block g (Array.getElem?_eq_some_iff.1 hh).1).trans hh, r⟩
theorem Own.drewN {B : Nat} {w : World} {v : Value} {ls : List (List UInt8)} (h : Own B w v ls) (n : Nat) : Own B (w.drewN n) v ls := h
theorem Own.alloc {B : Nat} {w : World} {v : Value} {ls : List (List UInt8)} (h : Own B w v ls) (o : Obj) : Own B (w.alloc o) v ls := World.ownsRow.alloc h o

theorem stop_at (s : ByteArray) (k : Nat) : bl (s.extract k s.size) = (bl s).drop k := Lib.extract_to_end s k

theorem Own.base {B B' : Nat} {w : World} {v : Value} {ls : List (List UInt8)} (h : Own B w v ls) (hB : B' ≤ B) : Own B' w v ls := by
  obtain ⟨hlen, h⟩ := h
  refine ⟨hlen, h.imp id ?_⟩
  rintro ⟨g, cap, cur, rfl, hg, r⟩
  exact ⟨g, cap, cur, rfl, by omega, r⟩
theorem Own.nil (B : Nat) (w : World) : Own B w (.slice none 0 0) [] := World.ownsRow_nil w B 9 1

/-- what has been told of bytes up to a place -/
def Told (l : List UInt8) (recs : List (List UInt8)) (k : Nat) : Prop :=
  scan l = (recs ++ (scan (l.drop k)).1, k + (scan (l.drop k)).2.1, (scan (l.drop k)).2.2)
theorem Told.start (l : List UInt8) : Told l [] 0 := by unfold Told; simp
theorem Told.next {l : List UInt8} {recs : List (List UInt8)} {k : Nat} (h : Told l recs k) (hs : stop (l.drop k) = none) :
    Told l (recs ++ [((l.drop k).drop 8).take (num (l.drop k))]) (k + (8 + num (l.drop k))) := by
  unfold Told at *
  have e : (l.drop k).drop (8 + num (l.drop k)) = l.drop (k + (8 + num (l.drop k))) := List.drop_drop
  rw [h, scan_more hs, e]
  simp only [List.append_assoc, List.cons_append, List.nil_append, Nat.add_assoc]
theorem Told.done {l : List UInt8} {recs : List (List UInt8)} {k c : Nat} (h : Told l recs k) (hs : stop (l.drop k) = some c) : scan l = (recs, k, c) := by
  unfold Told at h
  rw [h, scan_stop hs]
  simp
theorem Told.all {l : List UInt8} {recs : List (List UInt8)} {k : Nat} (h : Told l recs k) (hk : l.length ≤ k) : scan l = (recs, k, 0) := by
  refine h.done ?_
  rw [List.drop_eq_nil_of_le hk]; rfl

/-- what Scan's loop holds -/
structure Sc (s : ByteArray) (g : Nat) (W wr : World) (v : Value) (recs : List (List UInt8)) (k : Nat) : Prop where
  told : Told (bl s) recs k
  own : Own (g + 1) wr v recs
  below : Below (g + 1) W wr
  few : recs.length ≤ k
theorem Sc.tbl {s : ByteArray} {g : Nat} {W wr : World} {v : Value} {recs : List (List UInt8)} {k : Nat} (h : Sc s g W wr v recs k) (hT : Tbl W g) : Tbl wr g := hT.kept h.below (by omega)

set_option maxHeartbeats 4000000 in
set_option maxRecDepth 100000 in
theorem scan_any (s : ByteArray) (w : World) (hs : s.size ≤ 16777216) :
    Calls Try.prog 74 #[.string s] w fun e w' => (∃ v, e = .returned (.tuple #[v, .int .i64 ((scan (bl s)).2.1 : Nat), .int .i64 ((scan (bl s)).2.2 : Nat)]) ∧ Own w.heap.size w' v (scan (bl s)).1) ∧ Below w.heap.size w w' := by
  obtain ⟨i0, hi, hz0, hz1, hz2⟩ := info_parts Try.info9
  have hT0 := Tbl.made w
  have hB0 : Below w.heap.size w (w.alloc (.cells (tabCells 256) 120)) := (Below.refl _ _).alloc (Nat.le_refl _) _
  have hz : (w.alloc (.cells (tabCells 256) 120)).heap.size = w.heap.size + 1 := by simp
  replace hT0 := Lib.hid hT0
  replace hB0 := Lib.hid hB0
  replace hz := Lib.hid hz
  go_enter Try.func74, Try.ntmps74
  go_wp2_with fail
  go_step3
  go_wp2_with (first | (go_at_call 87; refine (table_any _).mono ?_; rintro e w' ⟨rfl, rfl⟩))
  go_step3
  go_wp2_with fail
  generalize hW : w.alloc (.cells (tabCells 256) 120) = W at *
  replace hW := Lib.hid hW
  generalize hg : w.heap.size = g at *
  replace hg := Lib.hid hg
  go_loopw [6, 7, 8] (fun v i b wr => ∃ (k : Nat) (recs : List (List UInt8)), k ≤ s.size ∧ i = .int .i64 k ∧ b = .int .i64 0 ∧ Hid (Sc s g W wr v recs k)) (fun _ i _ _ => s.size - (intOf i).toNat)
  case atStart => exact ⟨0, [], by omega, rfl, rfl, Lib.hid ⟨Told.start _, Own.nil _ _, Below.refl _ _, by simp⟩⟩
  case round =>
    obtain ⟨k, recs, hk, rfl, rfl, hSc⟩ := hrel
    by_cases hlt : k < s.size
    · obtain ⟨t, qt⟩ : ∃ t, s.extract k s.size = t := ⟨_, rfl⟩
      have bt : bl t = (bl s).drop k := by rw [← qt]; exact stop_at s k
      have st : t.size = s.size - k := by rw [← qt, ext_size _ _ _ (Nat.le_refl _)]
      have ht0 : 0 < t.size := by omega
      have ht9 : t.size ≤ 16777216 := by omega
      have kz : (k : Int) ≤ (s.size : Int) := by omega
      have klt : (k : Int) < (s.size : Int) := by omega
      have hTb := hSc.out.tbl hT0.out
      have hsz := hSc.out.below.size
      replace hTb := Lib.hid hTb
      replace bt := Lib.hid bt
      replace st := Lib.hid st
      cases hst : stop (bl t) with
      | some c =>
        have hfin := hSc.out.told.done (by rw [← bt.out]; exact hst)
        have hc0 : ((c : Int) == 0) = false := by
          have : c ≠ 0 := by
            rintro rfl
            unfold stop at hst
            have hl := bl_length t
            rw [if_neg (by omega)] at hst
            repeat (first | (split at hst) | (cases hst))
          simp; omega
        have hcon := fun w h => first_any g t [] c w h ht0 (by omega) (.inr ⟨hst, rfl⟩)
        replace hcon := Lib.hid hcon
        replace hst := Lib.hid hst
        replace hfin := Lib.hid hfin
        go_wp2_with (first | (go_at_call 88; with_reducible refine (hcon.out _ hTb.out).mono ?_; rintro e w' ⟨rfl, n', rfl⟩))
        (try rw [Exit.noGoto_ret])
        go_ret3
        rw [hfin.out, hg.out]
        exact ⟨⟨_, rfl, (hSc.out.own.drewN n').base (by omega)⟩, hB0.out.trans (below_dn (hSc.out.below.mono (by omega)) n')⟩
      | none =>
        obtain ⟨q8, qn, ql, _⟩ := stop_none hst
        have hnx := hSc.out.told.next (by rw [← bt.out]; exact hst)
        rw [← bt.out] at hnx
        have hcon := fun w h => first_any g t (((bl t).drop 8).take (num (bl t))) 0 w h ht0 (by omega) (.inl ⟨hst, rfl, rfl⟩)
        have hkn : k + (8 + num (bl t)) ≤ s.size := by have := st.out; have := bl_length t; omega
        have hrl : (((bl t).drop 8).take (num (bl t))).length = num (bl t) := by rw [List.length_take, List.length_drop]; omega
        have hbl := bl_length t
        have hrs : ((⟨(((bl t).drop 8).take (num (bl t))).toArray⟩ : ByteArray)).size = num (bl t) := by rw [sz, bl_mk, hrl]
        generalize ((bl t).drop 8).take (num (bl t)) = r at *
        generalize num (bl t) = n at *
        have hclo := fun w => clone_any ⟨r.toArray⟩ w (by omega)
        replace hcon := Lib.hid hcon
        replace hst := Lib.hid hst
        replace hnx := Lib.hid hnx
        replace hrl := Lib.hid hrl
        replace hclo := Lib.hid hclo
        have hown := hSc.out.own
        replace hown := Lib.hid hown
        have hfew := hSc.out.few
        have hsW := hz.out
        replace hsW := Lib.hid hsW
        go_wp2_with (first | (go_at_call 88; with_reducible refine (hcon.out _ hTb.out).mono ?_; rintro e w' ⟨rfl, n', rfl⟩) | (go_at_call 89; with_reducible refine (hclo.out _).mono ?_; rintro e w2 ⟨rfl, hcb⟩; replace hcb := Lib.hid hcb) | (at_builtin; refine wpList_append_own _ rfl _ _ 52 rfl (g + 1) 9 i0 (.string ⟨#[]⟩) 1 16 Try.underlying52 hi hz0 hz1 hz2 rfl (by decide) _ recs.length (recs.map sv) rfl ?hown _ 1 1 [sv r] rfl rfl ?hnews ?hone ?h63 ?hbytes ?hbase ?_))
        case hown => exact ((hown.out.drewN n').kept hcb.out).alloc _
        case hnews =>
          intro j u hu
          have ha : (⟨w2.heap.size, 0, none⟩ : Addr).add j = ⟨w2.heap.size, j, none⟩ := by unfold Addr.add; split <;> simp_all
          rw [ha]
          show (w2.alloc (Obj.cells #[sv r] 9)).cell? ⟨w2.heap.size, j, none⟩ = some u
          rw [cell_of_row _ w2.heap.size j #[sv r] 9 (0, 0) (heap_alloc_new w2 _)]
          simpa using hu
        case hone => intro u hu; simp at hu; subst hu; rfl
        case h63 => unfold maxLen; omega
        case hbytes => omega
        case hbase =>
          have h1 := hcb.out.size
          have h2 := hsW.out
          simp only [World.heap_drewN] at h1
          simp only [World.size_alloc]
          omega
        intro v' w3 hown' hgrow _
        have hbel : Below (g + 1) W w3 := by
          have h1 := hcb.out.size
          have h2 := hsW.out
          simp only [World.heap_drewN] at h1
          refine ((((below_dn hSc.out.below n').trans (hcb.out.mono (by simp only [World.heap_drewN]; omega))).alloc (by omega) _).grown hgrow (by simp only [World.size_alloc]; omega) ?_)
          intro j hj
          exact (hown.out.lt j hj).1
        have hOwn' : Own (g + 1) w3 v' (recs ++ [r]) := by
          unfold Own
          rw [List.length_append, List.map_append]
          exact hown'
        have hN : Hid (Sc s g W w3 v' (recs ++ [r]) (k + (8 + n))) := Lib.hid ⟨hnx.out, hOwn', hbel, by simp; omega⟩
        clear hown' hgrow hbel hOwn'
        go_wp2_with fail
        go_roundw
        case rel => exact ⟨k + (8 + n), recs ++ [r], by omega, by go_num, rfl, hN⟩
        case measure => simp [intOf]; omega
    · have hfin := hSc.out.told.all (by rw [bl_length]; omega)
      have klt : ¬ (k : Int) < (s.size : Int) := by omega
      replace hfin := Lib.hid hfin
      go_wp2_with fail
      (try rw [Exit.noGoto_ret])
      go_ret3
      rw [hfin.out, hg.out]
      exact ⟨⟨_, rfl, hSc.out.own.base (by omega)⟩, hB0.out.trans (hSc.out.below.mono (by omega))⟩
end Go.Proofs.Ytidofjjghbhaaaa
