/- The contract of the reference's Scan. -/
import Derived.Test.YtidofjjghbhaaaaM0
namespace Go.Proofs.Ytidofjjghbhaaaa
open Go.RowKit
set_option linter.unusedVariables false

/-- what the reference's Scan holds in its loop -/
structure Scr (s : ByteArray) (w0 wr : World) (v : Value) (recs : List (List UInt8)) (k : Nat) : Prop where
  told : Told (bl s) recs k
  own : Own w0.heap.size wr v recs
  below : Below w0.heap.size w0 wr
  few : recs.length ≤ k

set_option maxHeartbeats 4000000 in
set_option maxRecDepth 100000 in
theorem scanR_any (s : ByteArray) (w : World) (hs : s.size ≤ 16777216) :
    Calls Try.prog 47 #[.string s] w fun e w' => (∃ v, e = .returned (.tuple #[v, .int .i64 ((scan (bl s)).2.1 : Nat), .int .i64 ((scan (bl s)).2.2 : Nat)]) ∧ Own w.heap.size w' v (scan (bl s)).1) ∧ Below w.heap.size w w' := by
  obtain ⟨i0, hi, hz0, hz1, hz2⟩ := info_parts Try.info9
  go_enter Try.func47, Try.ntmps47
  go_wp2_with fail
  have hS0 : Scr s w (w.alloc (.cells #[] 9)) (.slice (some ⟨w.heap.size, 0, none⟩) 0 0) [] 0 :=
    ⟨Told.start _, World.ownsRow_made (base := w.heap.size) (e := 9) (size := 1) w #[] 0 (Nat.le_refl _) (by decide) rfl, (Below.refl _ _).alloc (Nat.le_refl _) _, by simp⟩
  replace hS0 := Lib.hid hS0
  go_loopw [5, 6] (fun v i wr => ∃ (k : Nat) (recs : List (List UInt8)), k ≤ s.size ∧ i = .int .i64 k ∧ Hid (Scr s w wr v recs k)) (fun _ i _ => s.size + 1 - (intOf i).toNat)
  case atStart => exact ⟨0, [], by omega, rfl, hS0⟩
  case round =>
    obtain ⟨k, recs, hk, rfl, hSc⟩ := hrel
    obtain ⟨m, hm⟩ : ∃ m : Nat, m = s.size - k := ⟨_, rfl⟩
    have hmz : (s.size : Int) - (k : Int) = (m : Int) := by omega
    obtain ⟨L, hL⟩ : ∃ L : List UInt8, L = (bl s).drop k := ⟨_, rfl⟩
    have hLl : L.length = m := by rw [hL, List.length_drop, bl_length]; exact hm.symm
    have hdone := fun c h => hSc.out.told.done (c := c) h
    have hnext := hSc.out.told.next
    have hown := hSc.out.own
    have hfew := hSc.out.few
    have hbel := hSc.out.below
    rw [← hL] at hdone hnext
    replace hdone := Lib.hid hdone
    replace hnext := Lib.hid hnext
    replace hown := Lib.hid hown
    replace hbel := Lib.hid hbel
    have hmk : m + k = s.size := by omega
    have hmk1 : m + k ≤ s.size := by omega
    have hmk2 : s.size ≤ m + k := by omega
    clear hmk
    replace hm := Lib.hid hm
    by_cases h0 : m = 0
    · subst h0
      have hfin := hdone.out 0 (by unfold stop; rw [if_pos hLl])
      replace hfin := Lib.hid hfin
      replace hL := Lib.hid hL
      replace hLl := Lib.hid hLl
      go_wp2_with fail
      go_ret3
      rw [hfin.out]
      exact ⟨⟨_, rfl, hown.out⟩, hbel.out⟩
    · have h0z : ((m : Int) == 0) = false := by simp; omega
      by_cases h8 : m < 8
      · have h8z : (m : Int) < 8 := by omega
        have hfin := hdone.out 1 (by unfold stop; rw [hLl, if_neg h0, if_pos h8])
        replace hfin := Lib.hid hfin
        replace hL := Lib.hid hL
        replace hLl := Lib.hid hLl
        replace h0 := Lib.hid h0
        go_wp2_with fail
        go_ret3
        rw [hfin.out]
        exact ⟨⟨_, rfl, hown.out⟩, hbel.out⟩
      · have h8z : ¬ (m : Int) < 8 := by omega
        have c1 := fun w => number_any s k w (by omega) (by omega)
        have c2 := fun w => number_any s (k + 4) w (by omega) (by omega)
        have e1 : at4 s k = num L := by unfold at4; rw [hL]
        have e2 : at4 s (k + 4) = num (L.drop 4) := by unfold at4; rw [hL, List.drop_drop]
        rw [e1] at c1
        rw [e2] at c2
        have hn := num_lt L
        have hd := num_lt (L.drop 4)
        have hstop : stop L = if 65536 < num L then some 2 else if m < 8 + num L then some 1 else if crc ((L.drop 8).take (num L)) = num (L.drop 4) then none else if m = 8 + num L then some 1 else some 2 := by
          unfold stop
          rw [hLl, if_neg h0, if_neg h8]
        generalize hN : num L = n at *
        generalize hD : num (L.drop 4) = d at *
        have k4 : ((k + 4 : Nat) : Int) = (k : Int) + 4 := by omega
        replace c2 : ∀ (w : World), Calls Try.prog 78 #[Value.string s, Value.int IntKind.i64 ((k : Int) + 4)] w fun e w' => e = Ending.returned (Value.int IntKind.i64 (d : Int)) ∧ ∃ n, w' = w.drewN n := c2
        replace c1 := Lib.hid c1
        replace c2 := Lib.hid c2
        replace hN := Lib.hid hN
        replace hD := Lib.hid hD
        replace e1 := Lib.hid e1
        replace e2 := Lib.hid e2
        replace hL := Lib.hid hL
        replace hLl := Lib.hid hLl
        replace h0 := Lib.hid h0
        replace k4 := Lib.hid k4
        by_cases hbig : 65536 < n
        · have hbz : (65536 : Int) < (n : Int) := by omega
          have hfin := hdone.out 2 (by rw [hstop, if_pos hbig])
          replace hfin := Lib.hid hfin
          replace hstop := Lib.hid hstop
          go_wp2_with fail
          with_reducible refine (c1.out _).mono ?_
          rintro e w' ⟨rfl, n1, rfl⟩
          go_wp2_with fail
          go_ret3
          rw [hfin.out]
          exact ⟨⟨_, rfl, hown.out.drewN n1⟩, below_dn hbel.out n1⟩
        · have hbz : ¬ (65536 : Int) < (n : Int) := by omega
          rw [if_neg hbig] at hstop
          by_cases hsh : m < 8 + n
          · have hsz : (m : Int) < 8 + (n : Int) := by omega
            have hfin := hdone.out 1 (by rw [hstop, if_pos hsh])
            replace hfin := Lib.hid hfin
            replace hstop := Lib.hid hstop
            go_wp2_with fail
            with_reducible refine (c1.out _).mono ?_
            rintro e w' ⟨rfl, n1, rfl⟩
            go_wp2_with fail
            go_ret3
            rw [hfin.out]
            exact ⟨⟨_, rfl, hown.out.drewN n1⟩, below_dn hbel.out n1⟩
          · have hsz : ¬ (m : Int) < 8 + (n : Int) := by omega
            rw [if_neg hsh] at hstop
            obtain ⟨rec, qr⟩ : ∃ b, s.extract (k + 8) (k + 8 + n) = b := ⟨_, rfl⟩
            have br : bl rec = (L.drop 8).take n := by
              rw [← qr, hL.out]; unfold bl; rw [Lib.extract_data, List.drop_drop, show k + 8 + n - (k + 8) = n by omega]
            have sr : rec.size = n := by rw [← qr, ext_size _ _ _ (by omega)]; omega
            have hck := fun w => checkR_any rec w (by omega)
            have hcr := crc_lt (bl rec)
            rw [← br] at hstop
            replace hnext := Lib.hid hnext.out
            have s1 : (k : Int) + 8 ≤ (s.size : Int) := by omega
            have s2 : (k : Int) + 8 + (n : Int) ≤ (s.size : Int) := by omega
            generalize hK : crc (bl rec) = q at *
            replace hK := Lib.hid hK
            replace hck := Lib.hid hck
            have hrl : ((L.drop 8).take n).length = n := by rw [← br, bl_length, sr]
            have hmkr : (⟨((L.drop 8).take n).toArray⟩ : ByteArray) = rec := by rw [← br, mk_bl]
            generalize (L.drop 8).take n = r at *
            replace br := Lib.hid br
            replace sr := Lib.hid sr
            replace hrl := Lib.hid hrl
            by_cases hok : q = d
            · have hokz : ((q : Int) == (d : Int)) = true := by simp [hok]
              rw [if_pos hok] at hstop
              have hnx := hnext.out hstop
              replace hnx := Lib.hid hnx
              replace hok := Lib.hid hok
              replace hstop := Lib.hid hstop
              have hrs : rec = (⟨r.toArray⟩ : ByteArray) := hmkr.symm
              subst hrs
              clear hmkr
              go_wp2_with fail
              with_reducible refine (c1.out _).mono ?_
              rintro e w' ⟨rfl, n1, rfl⟩
              go_wp2_with fail
              with_reducible refine (hck.out _).mono ?_
              rintro e w' ⟨rfl, rfl⟩
              go_wp2_with fail
              with_reducible refine (c2.out _).mono ?_
              rintro e w' ⟨rfl, n2, rfl⟩
              go_wp2_with (first | (at_builtin; refine wpList_append_own _ rfl _ _ 52 rfl w.heap.size 9 i0 (.string ⟨#[]⟩) 1 16 Try.underlying52 hi hz0 hz1 hz2 rfl (by decide) _ recs.length (recs.map sv) rfl ?hown _ 1 1 [sv r] rfl rfl ?hnews ?hone ?h63 ?hbytes ?hbase ?_))
              case hown => exact (hown.out.drewN (n1 + n2)).alloc _
              case hnews =>
                intro j u hu
                rw [Go.WideShapes.add_plain]
                rw [Nat.zero_add]
                refine (cell_of_row _ _ j #[sv r] 9 (0, 0) (heap_alloc_new _ _)).trans ?_
                simpa using hu
              case hone => intro u hu; simp at hu; subst hu; rfl
              case h63 => unfold maxLen; omega
              case hbytes => omega
              case hbase =>
                have h1 := hbel.out.size
                simp only [World.size_alloc, World.heap_drewN]
                omega
              intro v' w3 hown' hgrow _
              have hbel3 : Below w.heap.size w w3 := by
                have h1 := hbel.out.size
                refine ((below_dn hbel.out (n1 + n2)).alloc (by simp only [World.heap_drewN]; omega) _).grown hgrow (by simp only [World.size_alloc, World.heap_drewN]; omega) ?_
                intro j hj
                exact (hown.out.lt j hj).1
              have hOwn' : Own w.heap.size w3 v' (recs ++ [r]) := by
                unfold Own
                rw [List.length_append, List.map_append]
                exact hown'
              have hN3 : Hid (Scr s w w3 v' (recs ++ [r]) (k + (8 + n))) := Lib.hid ⟨hnx.out, hOwn', hbel3, by simp; omega⟩
              clear hown' hgrow hbel3 hOwn'
              go_wp2_with fail
              go_roundw
              case rel => exact ⟨k + (8 + n), recs ++ [r], by omega, by go_num, hN3⟩
              case measure => simp [intOf]; omega
            · have hokz : ((q : Int) == (d : Int)) = false := by simp; omega
              rw [if_neg hok] at hstop
              replace hok := Lib.hid hok
              replace hmkr := Lib.hid hmkr
              by_cases hend : m = 8 + n
              · have hez : ((m : Int) == 8 + (n : Int)) = true := by simp; omega
                have hfin := hdone.out 1 (by rw [hstop, if_pos hend])
                replace hfin := Lib.hid hfin
                replace hstop := Lib.hid hstop
                replace hend := Lib.hid hend
                go_wp2_with fail
                with_reducible refine (c1.out _).mono ?_
                rintro e w' ⟨rfl, n1, rfl⟩
                go_wp2_with fail
                with_reducible refine (hck.out _).mono ?_
                rintro e w' ⟨rfl, rfl⟩
                go_wp2_with fail
                with_reducible refine (c2.out _).mono ?_
                rintro e w' ⟨rfl, n2, rfl⟩
                go_wp2_with fail
                go_ret3
                rw [hfin.out]
                exact ⟨⟨_, rfl, hown.out.drewN (n1 + n2)⟩, below_dn hbel.out (n1 + n2)⟩
              · have hez : ((m : Int) == 8 + (n : Int)) = false := by simp; omega
                have hfin := hdone.out 2 (by rw [hstop, if_neg hend])
                replace hfin := Lib.hid hfin
                replace hstop := Lib.hid hstop
                replace hend := Lib.hid hend
                go_wp2_with fail
                with_reducible refine (c1.out _).mono ?_
                rintro e w' ⟨rfl, n1, rfl⟩
                go_wp2_with fail
                with_reducible refine (hck.out _).mono ?_
                rintro e w' ⟨rfl, rfl⟩
                go_wp2_with fail
                with_reducible refine (c2.out _).mono ?_
                rintro e w' ⟨rfl, n2, rfl⟩
                go_wp2_with fail
                go_ret3
                rw [hfin.out]
                exact ⟨⟨_, rfl, hown.out.drewN (n1 + n2)⟩, below_dn hbel.out (n1 + n2)⟩
end Go.Proofs.Ytidofjjghbhaaaa
