/- The contracts of the reference's capital and Check.
  The contracts of the reference's Find, With and Same.
  The contracts of the reference's With and Same. -/
import Derived.Test.YtllhpdohahoelaaP4
import Derived.BigQuiet
import Derived.Deep.QuietTactic
import Derived.Test.YtllhpdohahoelaaP7
import Derived.Laws.StructEq
namespace Go.Proofs.Ytllhpdohahoelaa
open Go.RowKit
set_option linter.unusedVariables false

theorem capB_iff {s : ByteArray} {i : Nat} (h : i < s.size) : capB s i ↔ (65 ≤ ((s[i]'h).toNat : Int) ∧ ((s[i]'h).toNat : Int) ≤ 90) :=
  ⟨fun ⟨_, h1, h2⟩ => ⟨by omega, by omega⟩, fun ⟨h1, h2⟩ => ⟨h, by omega, by omega⟩⟩

theorem ret_bool {a b : Bool} (h : a = b) : Ending.returned (.bool a) = .returned (.bool b) := by rw [h]
theorem cap_eq (s : ByteArray) (h0 : 0 < s.size) (h1 : 1 < s.size) (h2 : 2 < s.size) (hs : s.size = 3) :
    (!missB s) = (decide (65 ≤ (s[0].toNat : Int)) && decide ((s[0].toNat : Int) ≤ 90) && decide (65 ≤ (s[1].toNat : Int)) && decide ((s[1].toNat : Int) ≤ 90) && decide (65 ≤ (s[2].toNat : Int)) && decide ((s[2].toNat : Int) ≤ 90)) := by
  have e0 := capB_iff h0
  have e1 := capB_iff h1
  have e2 := capB_iff h2
  have hC : Cap3 s ↔ (capB s 0 ∧ capB s 1 ∧ capB s 2) := by
    constructor
    · rintro ⟨_, h⟩; exact ⟨h 0 (by omega), h 1 (by omega), h 2 (by omega)⟩
    · rintro ⟨a, b, c⟩
      refine ⟨hs, fun i hi => ?_⟩
      rcases (by omega : i = 0 ∨ i = 1 ∨ i = 2) with rfl | rfl | rfl
      · exact a
      · exact b
      · exact c
  rw [e0, e1, e2] at hC
  rw [Bool.eq_iff_iff]
  unfold missB
  simp [hC, and_assoc]

set_option maxHeartbeats 2000000 in
set_option maxRecDepth 100000 in
theorem capital_any (s : ByteArray) (w : World) :
    Calls Try.prog 34 #[.string s] w fun e w' => e = .returned (.bool (!missB s)) ∧ w = w' := by
  by_cases hs : s.size = 3
  · have hsz : ((s.size : Int) != 3) = false := by simp; omega
    have g0 : 0 < s.size := by omega
    have g1 : 1 < s.size := by omega
    have g2 : 2 < s.size := by omega
    have hfin := Lib.hid (cap_eq s g0 g1 g2 hs)
    clear hs
    go_enter Try.func34, Try.ntmps34
    go_wp2_with fail
    all_goals (go_ret; refine ⟨ret_bool ?_, rfl⟩; rw [hfin.out]; simp [*]; try omega)
  · have hsz : ((s.size : Int) != 3) = true := by simp; omega
    have hfin : missB s = true := by unfold missB; simp; exact fun h => absurd h.1 hs
    replace hfin := Lib.hid hfin
    clear hs
    go_enter Try.func34, Try.ntmps34
    go_wp2_with fail
    go_ret
    exact ⟨by rw [hfin.out]; rfl, rfl⟩

theorem chk_4 {cs : List Cur} (h : cs.length < 1 ∨ 8 < cs.length) : chkT cs = 4 := by unfold chkT; rw [if_pos h]
theorem chk_2 {cs : List Cur} {k : Nat} (h : ¬ (cs.length < 1 ∨ 8 < cs.length)) (hk : k < cs.length) (hm : missC (cAt cs k) = true) : chkT cs = 2 := by
  unfold chkT; rw [if_neg h, if_pos (any_yes hk hm)]
theorem chk_6 {cs : List Cur} (h : ¬ (cs.length < 1 ∨ 8 < cs.length)) (hm : ∀ i, i < cs.length → missC (cAt cs i) = false) (ht : Twice cs cs.length) : chkT cs = 6 := by
  unfold chkT; rw [if_neg h, if_neg (by rw [any_no hm]; simp), if_pos (tw_yes ht)]
theorem chk_1 {cs : List Cur} (h : ¬ (cs.length < 1 ∨ 8 < cs.length)) (hm : ∀ i, i < cs.length → missC (cAt cs i) = false) (ht : ¬ Twice cs cs.length) (ho : (∃ k, k < cs.length ∧ oobB (cAt cs k) = true) ∨ baseB (cAt cs 0) = false) : chkT cs = 1 := by
  unfold chkT; rw [if_neg h, if_neg (by rw [any_no hm]; simp), if_neg (by rw [tw_no ht]; simp), if_pos]
  rcases ho with ⟨k, hk, ho⟩ | ho
  · exact .inl (any_yes hk ho)
  · exact .inr ho
theorem chk_0 {cs : List Cur} (h : ¬ (cs.length < 1 ∨ 8 < cs.length)) (hm : ∀ i, i < cs.length → missC (cAt cs i) = false) (ht : ¬ Twice cs cs.length) (ho : ∀ i, i < cs.length → oobB (cAt cs i) = false) (hB : baseB (cAt cs 0) = true) : chkT cs = 0 := by
  unfold chkT; rw [if_neg h, if_neg (by rw [any_no hm]; simp), if_neg (by rw [tw_no ht]; simp), if_neg]
  rintro (h | h)
  · rw [any_no ho] at h; cases h
  · rw [hB] at h; cases h
theorem str_eq {a b : ByteArray} (h : a = b) : (a.toList == b.toList) = true := by subst h; simp

set_option maxHeartbeats 8000000 in
set_option maxRecDepth 100000 in
theorem checkR_any (p : Option Addr) (len cap : Nat) (cs : List Cur) (w : World) (hs : Tab w p len cs) :
    Calls Try.prog 11 #[.slice p len cap] w fun e w' => e = .returned (.int .i64 (chkT cs)) ∧ Below w.heap.size w w' := by
  have hl := hs.1
  by_cases h0 : len < 1
  · have z0 : (len : Int) < 1 := by omega
    have hfin := Lib.hid (chk_4 (cs := cs) (by omega))
    clear hs hl
    go_enter Try.func11, Try.ntmps11
    go_wp2_with fail
    go_ret
    exact ⟨by rw [hfin.out]; rfl, Below.refl _ _⟩
  · have z0 : ¬ (len : Int) < 1 := by omega
    by_cases h8 : 8 < len
    · have z8 : (8 : Int) < (len : Int) := by omega
      have hfin := Lib.hid (chk_4 (cs := cs) (by omega))
      clear hs hl
      go_enter Try.func11, Try.ntmps11
      go_wp2_with fail
      go_ret
      exact ⟨by rw [hfin.out]; rfl, Below.refl _ _⟩
    · have z8 : ¬ (8 : Int) < (len : Int) := by omega
      have hne : ¬ (cs.length < 1 ∨ 8 < cs.length) := by omega
      obtain ⟨_, _, _, hcells⟩ := hs
      obtain ⟨b, off, rfl, hblt, hc⟩ := hcells.resolve_left (by omega)
      replace hne := Lib.hid hne
      replace hl := Lib.hid hl
      replace hc := Lib.hid hc
      clear hcells
      go_enter Try.func11, Try.ntmps11
      go_wp2_with fail
      go_loopw [3] (fun i wr => ∃ k : Nat, k ≤ len ∧ i = .int .i64 k ∧ w = wr ∧ ∀ i, i < k → missC (cAt cs i) = false) (fun i _ => len - (intOf i).toNat)
      case atStart => exact ⟨0, by omega, rfl, rfl, fun i hi => by omega⟩
      case round =>
        obtain ⟨k, hk, rfl, rfl, hall⟩ := hrel
        replace hall := Lib.hid hall
        by_cases hlt : k < len
        · obtain ⟨c0, _, _⟩ := hc.out k hlt
          have hcap := fun w => capital_any (cAt cs k).code w
          by_cases hm : missC (cAt cs k) = true
          · have hfin := Lib.hid (chk_2 hne.out (by rw [hl.out]; exact hlt) hm)
            rw [show missB (cAt cs k).code = true from hm] at hcap
            replace hcap := Lib.hid hcap
            clear hm
            go_wp2_with fail
            refine (hcap.out _).mono ?_
            rintro e w1 ⟨rfl, rfl⟩
            go_wp2_with fail
            go_ret
            exact ⟨by rw [hfin.out]; rfl, Below.refl _ _⟩
          · have hm' : missC (cAt cs k) = false := by simpa using hm
            rw [show missB (cAt cs k).code = false from hm'] at hcap
            replace hcap := Lib.hid hcap
            replace hm' := Lib.hid hm'
            clear hm
            go_wp2_with fail
            refine (hcap.out _).mono ?_
            rintro e w1 ⟨rfl, rfl⟩
            go_wp2_with fail
            go_roundw
            case rel =>
              refine ⟨k + 1, by omega, by go_num, trivial, fun i hi => ?_⟩
              by_cases e : i = k
              · subst e; exact hm'.out
              · exact hall.out i (by omega)
            case measure => simp [intOf]; omega
        · have hmiss : ∀ i, i < cs.length → missC (cAt cs i) = false := fun i hi => hall.out i (by rw [hl.out] at hi; omega)
          replace hmiss := Lib.hid hmiss
          clear hall
          go_wp2_with fail
          go_loopw [4, 5] (fun i _ wr => ∃ k : Nat, k ≤ len ∧ i = .int .i64 k ∧ Below w.heap.size w wr ∧ ¬ Twice cs k) (fun i _ _ => len - (intOf i).toNat)
          case atStart => exact ⟨0, by omega, rfl, Below.refl _ _, fun ⟨j, hj, _⟩ => by omega⟩
          case round =>
            obtain ⟨k, hk, rfl, hb1, hall⟩ := hrel
            replace hall := Lib.hid hall
            by_cases hlt : k < len
            · obtain ⟨wo, rfl⟩ : ∃ wo : World, wo = wr := ⟨_, rfl⟩
              replace hb1 := Lib.hid hb1
              go_wp2_with fail
              go_loopw [5] (fun i wr => ∃ m : Nat, m ≤ k ∧ i = .int .i64 m ∧ Below w.heap.size w wr ∧ ∀ i, i < m → (cAt cs i).code ≠ (cAt cs k).code) (fun i _ => k - (intOf i).toNat)
              case atStart => exact ⟨0, by omega, rfl, hb1.out, fun i hi => by omega⟩
              case round =>
                clear hb1
                obtain ⟨m, hm, rfl, hb1, hin⟩ := hrel
                replace hin := Lib.hid hin
                by_cases hmk : m < k
                · obtain ⟨c0, _, _⟩ := hc.out k hlt
                  obtain ⟨d0, _, _⟩ := hc.out m (by omega)
                  rw [← hb1.cell (p := ⟨b, off + k * 3, none⟩) hblt] at c0
                  rw [← hb1.cell (p := ⟨b, off + m * 3, none⟩) hblt] at d0
                  have hkz : (k : Int) < (len : Int) := by omega
                  have hmz : (m : Int) < (len : Int) := by omega
                  replace hb1 := Lib.hid hb1
                  by_cases he : (cAt cs k).code = (cAt cs m).code
                  · have hfin := Lib.hid (chk_6 hne.out hmiss.out ⟨k, by rw [hl.out]; exact hlt, m, hmk, he.symm⟩)
                    have hq := str_eq he
                    replace he := Lib.hid he
                    go_wp2_with fail
                    go_quiet (fail)
                    go_wp2_with fail
                    go_ret
                    exact ⟨by rw [hfin.out]; rfl, below_drewN hb1.out nq⟩
                  · have hq := str_ne he
                    replace he := Lib.hid he
                    go_wp2_with fail
                    go_quiet (fail)
                    go_wp2_with fail
                    go_roundw
                    case rel =>
                      refine ⟨m + 1, by omega, by go_num, below_drewN hb1.out nq, fun i hi => ?_⟩
                      by_cases e : i = m
                      · subst e; exact fun h => he.out h.symm
                      · exact hin.out i (by omega)
                    case measure => simp [intOf]; omega
                · replace hb1 := Lib.hid hb1
                  go_wp2_with fail
                  go_roundw
                  case rel =>
                    refine ⟨k + 1, by omega, by go_num, hb1.out, ?_⟩
                    rintro ⟨j, hj, i, hi, h⟩
                    by_cases e : j = k
                    · subst e; exact hin.out i (by omega) h
                    · exact hall.out ⟨j, by omega, i, hi, h⟩
                  case measure => simp [intOf]; omega
            · have htw : ¬ Twice cs cs.length := by
                rw [hl.out]; obtain rfl : k = len := by omega
                exact hall.out
              replace htw := Lib.hid htw
              clear hall
              obtain ⟨wo, rfl⟩ : ∃ wo : World, wo = wr := ⟨_, rfl⟩
              have hc0 := hc.out 0 (by omega)
              simp only [Nat.zero_mul, Nat.add_zero] at hc0
              obtain ⟨_, c1, c2⟩ := hc0
              rw [← hb1.cell (p := ⟨b, off + 1, none⟩) hblt] at c1
              rw [← hb1.cell (p := ⟨b, off + 2, none⟩) hblt] at c2
              have hba : baseB (cAt cs 0) = (decide ((cAt cs 0).rate = 10000) && decide ((cAt cs 0).cut = 0)) := rfl
              replace hb1 := Lib.hid hb1
              by_cases hr : (cAt cs 0).rate = 10000
              · by_cases hu : (cAt cs 0).cut = 0
                · have hB : baseB (cAt cs 0) = true := by rw [hba, hr, hu]; rfl
                  rw [hr] at c1
                  rw [hu] at c2
                  replace hB := Lib.hid hB
                  clear hr hu hba
                  go_wp2_with fail
                  go_loopw [6] (fun i wr => ∃ k : Nat, k ≤ len ∧ i = .int .i64 k ∧ wo = wr ∧ ∀ i, i < k → oobB (cAt cs i) = false) (fun i _ => len - (intOf i).toNat)
                  case atStart => exact ⟨0, by omega, rfl, rfl, fun i hi => by omega⟩
                  case round =>
                    clear c1 c2
                    obtain ⟨k, hk, rfl, rfl, hall⟩ := hrel
                    replace hall := Lib.hid hall
                    by_cases hlt : k < len
                    · obtain ⟨_, c1, c2⟩ := hc.out k hlt
                      rw [← hb1.out.cell (p := ⟨b, off + k * 3 + 1, none⟩) hblt] at c1
                      rw [← hb1.out.cell (p := ⟨b, off + k * 3 + 2, none⟩) hblt] at c2
                      have hoo : (decide ((cAt cs k).rate < 1) || decide (100000000 < (cAt cs k).rate) || decide ((cAt cs k).cut < 0) || decide (10000 < (cAt cs k).cut)) = oobB (cAt cs k) := rfl
                      generalize (cAt cs k).rate = r at *
                      generalize (cAt cs k).cut = u at *
                      replace hoo := Lib.hid hoo
                      by_cases q0 : r < 1
                      · have z1 : decide (r < 1) = true := by simpa using q0
                        have hfin := Lib.hid (chk_1 hne.out hmiss.out htw.out (.inl ⟨k, by rw [hl.out]; exact hlt, by rw [← hoo.out]; simp <;> omega⟩))
                        go_wp2_with fail
                        go_ret
                        exact ⟨by rw [hfin.out]; rfl, hb1.out⟩
                      · have z1 : decide (r < 1) = false := by simpa using q0
                        by_cases q1 : 100000000 < r
                        · have z2 : decide (100000000 < r) = true := by simpa using q1
                          have hfin := Lib.hid (chk_1 hne.out hmiss.out htw.out (.inl ⟨k, by rw [hl.out]; exact hlt, by rw [← hoo.out]; simp <;> omega⟩))
                          go_wp2_with fail
                          go_ret
                          exact ⟨by rw [hfin.out]; rfl, hb1.out⟩
                        · have z2 : decide (100000000 < r) = false := by simpa using q1
                          by_cases q2 : u < 0
                          · have z3 : decide (u < 0) = true := by simpa using q2
                            have hfin := Lib.hid (chk_1 hne.out hmiss.out htw.out (.inl ⟨k, by rw [hl.out]; exact hlt, by rw [← hoo.out]; simp <;> omega⟩))
                            go_wp2_with fail
                            go_ret
                            exact ⟨by rw [hfin.out]; rfl, hb1.out⟩
                          · have z3 : decide (u < 0) = false := by simpa using q2
                            by_cases q3 : 10000 < u
                            · have z4 : decide (10000 < u) = true := by simpa using q3
                              have hfin := Lib.hid (chk_1 hne.out hmiss.out htw.out (.inl ⟨k, by rw [hl.out]; exact hlt, by rw [← hoo.out]; simp <;> omega⟩))
                              go_wp2_with fail
                              go_ret
                              exact ⟨by rw [hfin.out]; rfl, hb1.out⟩
                            · have z4 : decide (10000 < u) = false := by simpa using q3
                              have hok : oobB (cAt cs k) = false := by rw [← hoo.out]; simp <;> omega
                              replace hok := Lib.hid hok
                              go_wp2_with fail
                              go_roundw
                              case rel =>
                                refine ⟨k + 1, by omega, by go_num, trivial, fun i hi => ?_⟩
                                by_cases e : i = k
                                · subst e; exact hok.out
                                · exact hall.out i (by omega)
                              case measure => simp [intOf]; omega
                    · have hok := Lib.hid (chk_0 hne.out hmiss.out htw.out (fun i hi => hall.out i (by rw [hl.out] at hi; omega)) hB.out)
                      go_wp2_with fail
                      go_ret
                      exact ⟨by rw [hok.out]; rfl, hb1.out⟩
                · have hB : baseB (cAt cs 0) = false := by rw [hba]; simp [hu]
                  have hfin := Lib.hid (chk_1 hne.out hmiss.out htw.out (.inr hB))
                  rw [hr] at c1
                  generalize (cAt cs 0).cut = u at *
                  have q2 : (u != 0) = true := by simpa using hu
                  clear hr hu hba hB
                  go_wp2_with fail
                  go_ret
                  exact ⟨by rw [hfin.out]; rfl, hb1.out⟩
              · have hB : baseB (cAt cs 0) = false := by rw [hba]; simp [hr]
                have hfin := Lib.hid (chk_1 hne.out hmiss.out htw.out (.inr hB))
                generalize (cAt cs 0).rate = r at *
                have q2 : (r != 10000) = true := by simpa using hr
                clear hr hba hB
                go_wp2_with fail
                go_ret
                exact ⟨by rw [hfin.out]; rfl, hb1.out⟩
end Go.Proofs.Ytllhpdohahoelaa
namespace Go.Proofs.Ytllhpdohahoelaa
open Go.RowKit
set_option linter.unusedVariables false
theorem eq30a : Try.prog.underlying 49 = some (.struct (Try.prog.fieldsOf 49)) := by kernel_rfl
theorem eq30b : Try.prog.stoodInHeld 49 = false := by kernel_rfl
theorem eq30c : Try.prog.eqGuardType Try.prog.depth 49 = false := by kernel_rfl
theorem eq30d : Try.prog.fieldsOf 49 = #[⟨"Code", 9, 0, false, "", "", 0⟩, ⟨"Rate", 2, 1, false, "", "", 16⟩, ⟨"Haircut", 2, 2, false, "", "", 24⟩] := by kernel_rfl

theorem neq_cur (s : ByteArray) (r h : Int) (w : World) : (binOp .neq 49 (.agg #[.string s, .int .i64 r, .int .i64 h]) (.agg #[.string s, .int .i64 r, .int .i64 h])).run Try.prog w = .ok (.bool false) w := by
  have e0 := Try.underlying9
  have e1 := Try.underlying2
  rw [run_neq_struct, run_equalIn_agg w 9999 49 _ _ eq30a eq30b, eq30d]
  simp [Op.eqFields, go_sem, e0, e1]

theorem set_both {cs : List Cur} {k : Nat} (hk : k < cs.length) (x y : Int) :
    (cs.set k { cAt cs k with rate := x }).set k { cAt (cs.set k { cAt cs k with rate := x }) k with cut := y } = cs.set k ⟨(cAt cs k).code, x, y⟩ := by
  have e : cAt (cs.set k { cAt cs k with rate := x }) k = { cAt cs k with rate := x } := by
    unfold cAt; rw [List.getD_eq_getElem?_getD, List.getElem?_set_self hk]; rfl
  rw [e, List.set_set]
end Go.Proofs.Ytllhpdohahoelaa
namespace Go.Proofs.Ytllhpdohahoelaa
open Go.RowKit
set_option linter.unusedVariables false

set_option maxHeartbeats 2000000 in
set_option maxRecDepth 100000 in
theorem withR_any (p : Option Addr) (len cap : Nat) (cs : List Cur) (k : Nat) (x y : Int) (w : World) (hT : Tab w p len cs) (hk : k < len) (hl : len ≤ 1000) (hx : Amt x) (hy : Amt y) :
    Calls Try.prog 16 #[.slice p len cap, .int .i64 k, .int .i64 x, .int .i64 y] w (WithOut (cs.set k ⟨(cAt cs k).code, x, y⟩) len w) := by
  have hT' := hT
  obtain ⟨hle, hz, hm, hcells⟩ := hT
  obtain ⟨b, off, rfl, hblt, hc⟩ := hcells.resolve_left (by omega)
  obtain ⟨g, c, w1, hrun, hown, hb1⟩ := append_tab w b off len cap cs hT' (by omega) hl
  have hzk := hz k
  have hz' : ∀ i, CurOk (cAt (cs.set k ⟨(cAt cs k).code, x, y⟩) i) := curOk_set hz ⟨hzk.1, hx, hy⟩
  have hset1 := cells3_rate cs k x (by rw [hle]; exact hk)
  have hset2 := cells3_cut (cs.set k { cAt cs k with rate := x }) k y (by rw [List.length_set, hle]; exact hk)
  rw [set_both (by rw [hle]; exact hk)] at hset2
  obtain ⟨d0, d1, d2⟩ := cells3_get cs k (by rw [hle]; exact hk)
  have hle' : (cs.set k ⟨(cAt cs k).code, x, y⟩).length = len := by rw [List.length_set, hle]
  have f1 : w1.cell? ⟨g, k * 3 + 1, none⟩ = _ := (hown.cellAt (k * 3 + 1) (by omega)).trans d1
  have f2 := hown.frozenAt (k * 3 + 1)
  have hg := hown.lt g rfl
  obtain ⟨hst, _⟩ := hown.stored (k * 3 + 1) (.int .i64 x)
  rw [hset1] at hst
  have g1 : (w1.setCell ⟨g, k * 3 + 1, none⟩ (.int .i64 x)).cell? ⟨g, k * 3 + 2, none⟩ = some (.int .i64 (cAt (cs.set k { cAt cs k with rate := x }) k).cut) := (hst.cellAt (k * 3 + 2) (by omega)).trans (cells3_get _ k (by rw [List.length_set, hle]; exact hk)).2.2
  have g2 := hst.frozenAt (k * 3 + 2)
  obtain ⟨hst2, _⟩ := hst.stored (k * 3 + 2) (.int .i64 y)
  rw [hset2] at hst2
  have hb2 := hb1.setCell (p := ⟨g, k * 3 + 1, none⟩) hg.1 (.int .i64 x)
  have hb3 := hb2.setCell (p := ⟨g, k * 3 + 2, none⟩) hg.1 (.int .i64 y)
  clear hset1 hset2 d0 d1 d2 hst hc hcells hzk hT'
  generalize cs.set k ⟨(cAt cs k).code, x, y⟩ = cs' at *
  have hT1 := Tab.of_own hst2 hle' hz' hm
  generalize (cAt (cs.set k { cAt cs k with rate := x }) k).cut = u1 at *
  generalize (cAt cs k).rate = u2 at *
  replace hb2 := Lib.hid hb2
  replace hb3 := Lib.hid hb3
  replace hb1 := Lib.hid hb1
  replace hle := Lib.hid hle
  replace hle' := Lib.hid hle'
  replace hz' := Lib.hid hz'
  replace hz := Lib.hid hz
  replace hown := Lib.hid hown
  replace hst2 := Lib.hid hst2
  replace hrun := Lib.hid hrun
  have hcon := checkR_any (some ⟨g, 0, none⟩) len c cs' _ hT1
  replace hT1 := Lib.hid hT1
  by_cases hok : chkT cs' = 0
  · rw [hok] at hcon
    replace hok := Lib.hid hok
    replace hcon := Lib.hid hcon
    go_enter Try.func16, Try.ntmps16
    go_wp2_with (at_builtin; refine wpList_apx rfl _ _ _ _ rfl _ _ _ _ rfl rfl hrun.out ?_)
    refine hcon.out.mono ?_
    rintro e w2 ⟨rfl, hb4⟩
    have hT2 := Lib.hid (hT1.out.kept hb4)
    replace hb4 := Lib.hid (chain_trans hb3.out hb4)
    go_wp2_with fail
    go_ret2
    exact ⟨hb4.out, .inr ⟨hok.out, g, c, rfl, hT2.out, hg.1⟩⟩
  · generalize hn : chkT cs' = n at *
    have hn1 : (n != 0) = true := by simpa using hok
    replace hn := Lib.hid hn
    replace hok := Lib.hid hok
    replace hcon := Lib.hid hcon
    go_enter Try.func16, Try.ntmps16
    go_wp2_with (at_builtin; refine wpList_apx rfl _ _ _ _ rfl _ _ _ _ rfl rfl hrun.out ?_)
    refine hcon.out.mono ?_
    rintro e w2 ⟨rfl, hb4⟩
    replace hb4 := Lib.hid (chain_trans hb3.out hb4)
    go_wp2_with fail
    go_ret2
    exact ⟨hb4.out, .inl ⟨by rw [hn.out]; exact hok.out, rfl⟩⟩

theorem withR_none (p : Option Addr) (len cap : Nat) (cur x y : Int) (w : World) (h : ¬ (0 ≤ cur ∧ cur < len)) :
    Calls Try.prog 16 #[.slice p len cap, .int .i64 cur, .int .i64 x, .int .i64 y] w fun e w' => e = .returned (.tuple #[.slice none 0 0, .int .i64 1]) ∧ w = w' := by
  by_cases h0 : cur < 0
  · have z0 : decide (cur < 0) = true := by simpa using h0
    clear h
    go_enter Try.func16, Try.ntmps16
    go_wp2_with fail
    go_ret2
    exact ⟨rfl, rfl⟩
  · have z0 : decide (cur < 0) = false := by simpa using h0
    have z1 : (len : Int) ≤ cur := by omega
    clear h
    go_enter Try.func16, Try.ntmps16
    go_wp2_with fail
    go_ret2
    exact ⟨rfl, rfl⟩

set_option maxHeartbeats 1000000 in
set_option maxRecDepth 100000 in
theorem same_any (p q : Option Addr) (len cap cap' : Nat) (cs : List Cur) (w : World) (hs : Tab w p len cs) (hq : Tab w q len cs) :
    Calls Try.prog 17 #[.slice p len cap, .slice q len cap'] w fun e w' => e = .returned (.bool true) ∧ Below w.heap.size w w' := by
  obtain ⟨hl, hz, hm, hcells⟩ := hs
  obtain ⟨_, _, _, hcells2⟩ := hq
  replace hl := Lib.hid hl
  replace hz := Lib.hid hz
  replace hcells := Lib.hid hcells
  replace hcells2 := Lib.hid hcells2
  go_enter Try.func17, Try.ntmps17
  go_wp2_with fail
  go_loopw [5] (fun i wr => ∃ k : Nat, k ≤ len ∧ i = .int .i64 k ∧ Below w.heap.size w wr) (fun i _ => len - (intOf i).toNat)
  case atStart => exact ⟨0, by omega, rfl, Below.refl _ _⟩
  case round =>
    obtain ⟨k, hk, rfl, hb⟩ := hrel
    by_cases hlt : k < len
    · obtain ⟨b, off, rfl, hblt, hc⟩ := hcells.out.resolve_left (by omega)
      obtain ⟨b2, off2, rfl, hblt2, hc2⟩ := hcells2.out.resolve_left (by omega)
      obtain ⟨c0, c1, c2⟩ := hc k hlt
      obtain ⟨d0, d1, d2⟩ := hc2 k hlt
      rw [← hb.cell (p := ⟨b, off + k * 3, none⟩) hblt] at c0
      rw [← hb.cell (p := ⟨b, off + k * 3 + 1, none⟩) hblt] at c1
      rw [← hb.cell (p := ⟨b, off + k * 3 + 2, none⟩) hblt] at c2
      rw [← hb.cell (p := ⟨b2, off2 + k * 3, none⟩) hblt2] at d0
      rw [← hb.cell (p := ⟨b2, off2 + k * 3 + 1, none⟩) hblt2] at d1
      rw [← hb.cell (p := ⟨b2, off2 + k * 3 + 2, none⟩) hblt2] at d2
      have hne := neq_cur (cAt cs k).code (cAt cs k).rate (cAt cs k).cut
      have hkz : (k : Int) < (len : Int) := by omega
      have hqc := eq30c
      clear hc hc2
      replace hb := Lib.hid hb
      go_wp2_with fail
      go_quiet (fail)
      go_wp2_with fail
      go_roundw
      case rel => exact ⟨k + 1, by omega, by go_num, below_drewN hb.out nq⟩
      case measure => simp [intOf]; omega
    · replace hb := Lib.hid hb
      go_wp2_with fail
      go_ret
      exact ⟨rfl, hb.out⟩
end Go.Proofs.Ytllhpdohahoelaa
