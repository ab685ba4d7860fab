/- The contract of Behind, whatever comes; the contracts of mayBe and tooMany.
  The contract of tooMany; dues appended to dues; the contract of spread. -/
import Derived.Test.YthocnlalahknjaaGreatQPcc
import Derived.Test.YthocnlalahknjaaGreatQSc
namespace Go.Proofs.YthocnlalahknjaaGreat.Dd
open Go.RowKit Go.Maps
set_option linter.unusedVariables false

/-- what Behind hands back -/
def BehOut (rows : List (List Int)) (now : Int) (l : List Du) (w w' : World) (e : Ending) : Prop :=
  (4096 < l.length ∧ e = .returned (.tuple #[.slice none 0 0, .int .i64 4])) ∨
  (l.length ≤ 4096 ∧ l.any Du.wrong = true ∧ e = .returned (.tuple #[.slice none 0 0, .int .i64 1])) ∨
  (l.length ≤ 4096 ∧ l.any Du.wrong = false ∧ ∃ L : List Du, L.Perm (ofNow l now) ∧ InOrder byAcc L ∧
    ((∃ out u, behL rows now L.length L = some out ∧ e = .returned (.tuple #[u, .int .i64 0]) ∧ UR w w' u out) ∨ (behL rows now L.length L = none ∧ e = .returned (.tuple #[.slice none 0 0, .int .i64 3]))))
/-- every number of a due is one of 64 bits -/
def DuIn (d : Du) : Prop := In64 d.m ∧ In64 d.c ∧ In64 d.t ∧ In64 d.n
set_option maxHeartbeats 1000000 in
set_option maxRecDepth 100000 in
theorem behind_any (v pv : Value) (l : List Du) (rows : List (List Int)) (now : Int) (w : World) (h : USeq w v l) (hlen : l.length ≤ 4611686018427387904) (hin : ∀ d ∈ l, DuIn d) (hp : NSeq w pv rows) (hrl : rows.length ≤ 4611686018427387904) :
    Calls Tryz.prog 15 #[v, pv, .int .i64 now] w fun e w' => Below w.heap.size w w' ∧ BehOut rows now l w w' e := by
  by_cases h1 : 4096 < l.length
  · obtain ⟨a, cap, rfl, -⟩ := h
    have z : (4096 : Int) < (l.length : Int) := by omega
    go_enter Tryz.func15, Tryz.ntmps15
    go_wp2_with fail
    go_ret2
    exact ⟨Below.refl _ _, .inl ⟨h1, rfl⟩⟩
  · cases hw : l.any Du.wrong with
    | true =>
      have hc := anyWrong v l w h (by omega)
      rw [hw] at hc
      obtain ⟨a, cap, rfl, -⟩ := h
      have z : ¬ (4096 : Int) < (l.length : Int) := by omega
      replace hc := Lib.hid hc
      go_enter Tryz.func15, Tryz.ntmps15
      go_wp2_with (go_at_call 38; (with_reducible refine hc.out.mono ?_); rintro e w1 ⟨rfl, hb1⟩; replace hb1 := Lib.hid hb1)
      go_ret2
      exact ⟨hb1.out, .inr (.inl ⟨by omega, hw, rfl⟩)⟩
    | false =>
      have hok : ∀ d ∈ l, DuOk d := fun d hd => by
        have h2 : d.wrong = false := by
          have := List.any_eq_false.1 hw d hd
          simpa using this
        unfold Du.wrong at h2
        simp only [Bool.or_eq_false_iff, decide_eq_false_iff_not] at h2
        obtain ⟨⟨a1, a2⟩, a3⟩ := h2
        obtain ⟨b1, b2, b3, b4⟩ := hin d hd
        unfold In64 at *
        exact ⟨by omega, b1.2, by omega, b2.2, by omega, b4.2⟩
      refine (behind_loop v pv l rows now w h (by omega) hw hok hp hrl).mono ?_
      rintro e w' ⟨hb, r⟩
      exact ⟨hb, .inr (.inr ⟨by omega, hw, r⟩)⟩

/-- do ticks rise, from behind one on? -/
def rises : Int → List Int → Bool
  | _, [] => true
  | a, x :: r => decide (a < x) && rises x r
def mayD (zs : List Int) : Bool := decide (1 ≤ zs.length) && decide (zs.length ≤ 16) && rises (-1) zs
theorem rises_drop {zs : List Int} {a : Int} {k : Nat} (h : k < zs.length) : rises a (zs.drop k) = (decide (a < zs.getD k 0) && rises (zs.getD k 0) (zs.drop (k + 1))) := by
  have e : zs.getD k 0 = zs[k] := by rw [List.getD_eq_getElem?_getD, List.getElem?_eq_getElem h]; rfl
  rw [e, List.drop_eq_getElem_cons h]; rfl

set_option maxHeartbeats 1000000 in
set_option maxRecDepth 100000 in
theorem mayBeD_any (p : Option Addr) (len cap : Nat) (zs : List Int) (w : World) (hs : Seq64 w p len zs) :
    Calls Tryz.prog 32 #[.slice p len cap] w fun e w' => e = .returned (.bool (mayD zs)) ∧ w' = w := by
  obtain ⟨hl, hz, hm, hcs⟩ := hs
  obtain ⟨R, hR⟩ : ∃ R, R = mayD zs := ⟨_, rfl⟩
  rw [← hR]
  unfold mayD at hR
  rw [hl] at hR
  by_cases h1 : len < 1
  · have z : (len : Int) < 1 := by omega
    replace hR : R = false := by rw [hR]; simp; omega
    replace hR := Lib.hid hR
    clear hcs hz hl
    go_enter Tryz.func32, Tryz.ntmps32
    go_wp2_with fail
    go_ret
    exact ⟨by rw [hR.out]; rfl, rfl⟩
  · have z : ¬ (len : Int) < 1 := by omega
    by_cases h2 : 16 < len
    · have z2 : (16 : Int) < (len : Int) := by omega
      replace hR : R = false := by rw [hR]; simp; omega
      replace hR := Lib.hid hR
      clear hcs hz hl
      go_enter Tryz.func32, Tryz.ntmps32
      go_wp2_with fail
      go_ret
      exact ⟨by rw [hR.out]; rfl, rfl⟩
    · have z2 : ¬ (16 : Int) < (len : Int) := by omega
      replace hR : R = rises (-1) zs := by rw [hR, decide_eq_true (by omega), decide_eq_true (by omega)]; rfl
      obtain ⟨b, off, rfl, hlt, hall⟩ := hcs.resolve_left (by omega)
      replace hR := Lib.hid hR
      replace hall := Lib.hid hall
      replace hl := Lib.hid hl
      clear hz hcs
      go_enter Tryz.func32, Tryz.ntmps32
      go_wp2_with fail
      go_loopw [3, 16] (fun s i wr => ∃ (k : Nat) (a : Int), k ≤ len ∧ i = .int .i64 (k : Int) ∧ s = .int .i64 a ∧ Hid (wr = w ∧ R = rises a (zs.drop k))) (fun _ i _ => len - (intOf i).toNat)
      case atStart => exact ⟨0, -1, by omega, rfl, rfl, Lib.hid ⟨rfl, by rw [List.drop_zero]; exact hR.out⟩⟩
      case round =>
        obtain ⟨k, a, hk, rfl, rfl, hT⟩ := hrel
        obtain ⟨rfl, hr⟩ := hT.out
        by_cases hkn : k < len
        · have c0 := hall.out k hkn
          rw [rises_drop (by have := hl.out; omega)] at hr
          generalize zs.getD k 0 = x at *
          by_cases hx : a < x
          · have q : ¬ x ≤ a := by omega
            rw [decide_eq_true hx, Bool.true_and] at hr
            replace hr := Lib.hid hr
            clear hT
            go_wp2_with fail
            go_roundw
            case rel => exact ⟨k + 1, x, by omega, by go_num, rfl, Lib.hid ⟨(by first | rfl | trivial), hr.out⟩⟩
            case measure => simp [intOf]; omega
          · have q : x ≤ a := by omega
            rw [decide_eq_false hx, Bool.false_and] at hr
            replace hr := Lib.hid hr
            clear hT
            go_wp2_with fail
            go_ret
            exact ⟨by rw [hr.out]; rfl, (by first | rfl | trivial)⟩
        · obtain rfl : k = len := by omega
          have hkz : ¬ (k : Int) < (k : Int) := by omega
          have hr2 : R = true := by rw [hr, List.drop_of_length_le (by have := hl.out; omega)]; rfl
          replace hr2 := Lib.hid hr2
          clear hr hT
          go_wp2_with fail
          go_ret
          exact ⟨by rw [hr2.out]; rfl, (by first | rfl | trivial)⟩

theorem wide_any (p : Option Addr) (n c : Nat) (w : World) (hn : n ≤ 4611686018427387904) : Calls Tryz.prog 61 #[.slice p n c] w fun e w' => e = .returned (.bool (decide (8 < n))) ∧ w' = w := by
  have z : (decide (8 < n)) = decide ((8 : Int) < (n : Int)) := by rw [Bool.eq_iff_iff]; simp; omega
  rw [z]
  go_enter Tryz.func61, Tryz.ntmps61
  go_wp2
  go_ret
  exact ⟨rfl, rfl⟩
theorem eg61 : ∀ args w, (callFunc 61 args).run Tryz.prog w = .ok (.enter 61 args) w := enters_of Tryz.func61 (by kernel_rfl) rfl
/-- are there too many rows, or is one too wide? -/
def manyN (rows : List (List Int)) : Bool := decide (16 < rows.length) || rows.any fun r => decide (8 < r.length)
end Go.Proofs.YthocnlalahknjaaGreat.Dd
namespace Go.Proofs.YthocnlalahknjaaGreat.Dd
open Go.RowKit Go.Maps
set_option linter.unusedVariables false

set_option maxHeartbeats 1000000 in
set_option maxRecDepth 100000 in
theorem idxN_any (v : Value) (rows : List (List Int)) (w : World) (h : NSeq w v rows) (hlen : rows.length ≤ 1000000) (hw : ∀ r ∈ rows, r.length ≤ 4611686018427387904) :
    Calls Tryz.prog 79 #[v, .func (.func 61) #[] #[]] w fun e w' => (∃ i : Int, e = .returned (.int .i64 i) ∧ (decide (0 ≤ i) = rows.any fun r => decide (8 < r.length))) ∧ ∃ q, w' = w.drewN q := by
  obtain ⟨a, cap, rfl, hrd⟩ := h
  obtain ⟨n, hn⟩ : ∃ n, n = rows.length := ⟨_, rfl⟩
  rw [← hn] at hlen ⊢
  replace hrd := Lib.hid hrd
  replace hw := Lib.hid hw
  obtain ⟨R, hR⟩ : ∃ R, R = rows.any fun r => decide (8 < r.length) := ⟨_, rfl⟩
  rw [← hR]
  replace hR := Lib.hid hR
  replace hn := Lib.hid hn
  go_enter Tryz.func79, Tryz.ntmps79
  go_wp2_with fail
  go_loopw [8] (fun i wr => ∃ k : Nat, k ≤ n ∧ i = .int .i64 (k : Int) ∧ Hid ((∃ q, wr = w.drewN q) ∧ ∀ j, j < k → (rows.getD j []).length ≤ 8)) (fun i _ => n - (intOf i).toNat)
  case atStart => exact ⟨0, by omega, rfl, Lib.hid ⟨⟨0, rfl⟩, fun j hj => by omega⟩⟩
  case round =>
    obtain ⟨k, hk, rfl, hT⟩ := hrel
    obtain ⟨⟨q, rfl⟩, hr⟩ := hT.out
    by_cases hkn : k < n
    · have hkl : k < rows.length := by have := hn.out; omega
      obtain ⟨b, off, rfl, hlt, hall⟩ := hrd.out.resolve_left (by rintro rfl; simp at hkl)
      obtain ⟨p, c2, hc, hs⟩ := hall k hkl
      have hgd : rows.getD k [] = rows[k] := by rw [List.getD_eq_getElem?_getD, List.getElem?_eq_getElem hkl]; rfl
      have hwk := hw.out rows[k] (List.getElem_mem hkl)
      have hin : rows[k] ∈ rows := List.getElem_mem hkl
      generalize rows[k] = row at *
      obtain ⟨m, hm⟩ : ∃ m, m = row.length := ⟨_, rfl⟩
      rw [← hm] at hc hs hwk
      have hcl := fun W => wide_any p m c2 W hwk
      have hc' : (w.drewN q).cell? ⟨b, off + k, none⟩ = some (.slice p m c2) := hc
      replace hr := Lib.hid hr
      replace hgd := Lib.hid hgd
      replace hm := Lib.hid hm
      replace hin := Lib.hid hin
      clear hT hall hs hc
      by_cases h8 : 8 < m
      · have q8 : decide (8 < m) = true := decide_eq_true h8
        rw [q8] at hcl
        have hRt : R = true := by rw [hR.out, List.any_eq_true]; exact ⟨row, hin.out, by have := hm.out; simp; omega⟩
        replace hcl := Lib.hid hcl
        replace hRt := Lib.hid hRt
        replace h8 := Lib.hid h8
        clear q8
        go_wp2_with (go_at_call 61; (with_reducible refine (hcl.out _).mono ?_); rintro e w1 ⟨rfl, rfl⟩)
        go_ret
        exact ⟨⟨k, rfl, by rw [hRt.out]; simp⟩, ⟨q, rfl⟩⟩
      · have q8 : decide (8 < m) = false := decide_eq_false h8
        rw [q8] at hcl
        replace hcl := Lib.hid hcl
        have hnext : ∀ j, j < k + 1 → (rows.getD j []).length ≤ 8 := fun j hj => by
          by_cases hjk : j = k
          · subst hjk; rw [hgd.out]; have := hm.out; omega
          · exact hr.out j (by omega)
        replace h8 := Lib.hid h8
        replace hnext := Lib.hid hnext
        clear q8
        go_wp2_with (go_at_call 61; (with_reducible refine (hcl.out _).mono ?_); rintro e w1 ⟨rfl, rfl⟩)
        go_roundw
        case rel => exact ⟨k + 1, by omega, by go_num, Lib.hid ⟨⟨q, rfl⟩, hnext.out⟩⟩
        case measure => simp [intOf]; omega
    · obtain rfl : k = n := by omega
      have hkz : ¬ (k : Int) < (k : Int) := by omega
      have hRf : R = false := by
        rw [hR.out, List.any_eq_false]
        intro r hr0
        obtain ⟨i, hi, rfl⟩ := List.mem_iff_getElem.1 hr0
        have := hr i (by have := hn.out; omega)
        rw [List.getD_eq_getElem?_getD, List.getElem?_eq_getElem hi] at this
        have h2 : (rows[i]).length ≤ 8 := this
        simp; omega
      replace hRf := Lib.hid hRf
      replace hr := Lib.hid hr
      clear hT
      go_wp2_with fail
      go_ret
      exact ⟨⟨-1, rfl, by rw [hRf.out]; rfl⟩, ⟨q, rfl⟩⟩
set_option maxHeartbeats 1000000 in
set_option maxRecDepth 100000 in
theorem conN_any (v : Value) (rows : List (List Int)) (w : World) (h : NSeq w v rows) (hlen : rows.length ≤ 1000000) (hw : ∀ r ∈ rows, r.length ≤ 4611686018427387904) :
    Calls Tryz.prog 60 #[v, .func (.func 61) #[] #[]] w fun e w' => e = .returned (.bool (rows.any fun r => decide (8 < r.length))) ∧ ∃ q, w' = w.drewN q := by
  have h0 := idxN_any v rows w h hlen hw
  generalize (rows.any fun r => decide (8 < r.length)) = R at *
  replace h0 := Lib.hid h0
  go_enter Tryz.func60, Tryz.ntmps60
  go_wp2_with (go_at_call 79; (with_reducible refine h0.out.mono ?_); rintro e w1 ⟨⟨i, rfl, hi⟩, hq⟩; replace hi := Lib.hid hi; replace hq := Lib.hid hq)
  go_ret
  exact ⟨by rw [← hi.out]; rfl, hq.out⟩
set_option maxHeartbeats 1000000 in
set_option maxRecDepth 100000 in
theorem tooMany_any (v : Value) (rows : List (List Int)) (w : World) (h : NSeq w v rows) (hlen : rows.length ≤ 4611686018427387904) (hw : ∀ r ∈ rows, r.length ≤ 4611686018427387904) :
    Calls Tryz.prog 33 #[v] w fun e w' => e = .returned (.bool (manyN rows)) ∧ ∃ q, w' = w.drewN q := by
  by_cases h16 : 16 < rows.length
  · have e1 : manyN rows = true := by unfold manyN; rw [decide_eq_true h16]; rfl
    rw [e1]
    obtain ⟨a, cap, rfl, -⟩ := h
    have z : (16 : Int) < (rows.length : Int) := by omega
    go_enter Tryz.func33, Tryz.ntmps33
    go_wp2_with fail
    go_ret
    exact ⟨rfl, ⟨0, rfl⟩⟩
  · have e1 : manyN rows = rows.any fun r => decide (8 < r.length) := by unfold manyN; rw [decide_eq_false h16]; rfl
    rw [e1]
    have h0 := conN_any v rows w h (by omega) hw
    generalize (rows.any fun r => decide (8 < r.length)) = R at *
    obtain ⟨a, cap, rfl, -⟩ := h
    have z : ¬ (16 : Int) < (rows.length : Int) := by omega
    replace h0 := Lib.hid h0
    go_enter Tryz.func33, Tryz.ntmps33
    go_wp2_with (go_at_call 60; (with_reducible refine h0.out.mono ?_); rintro e w1 ⟨rfl, hq⟩; replace hq := Lib.hid hq)
    go_ret
    exact ⟨rfl, hq.out⟩

/-- several are appended: where the row lies then -/
theorem appN_run (S T k bytes : Nat) (z : Value) (hS : Tryz.prog.underlying S = some (.slice T)) (hI : (Tryz.prog.info? T).map (fun i => (i.zero, i.size, i.bytes)) = some (some z, k, bytes)) (hk : z.cells.size = k) (hk0 : 0 < k) (hb : bytes ≤ 1000)
    (w : World) (v : Value) (n : Nat) (xs : List Value) (h : w.ownsRow 0 T k v n xs) (a : Addr) (m c : Nat) (hm : 0 < m) (news : List Value) (hl : news.length = m * k) (hx : ∀ j u, news[j]? = some u → w.cell? (a.add j) = some u) (h1 : ∀ u ∈ news, u.oneCell' = true) (hs : n + m ≤ 16777216) :
    ∃ v' w', (Builtin.append_ #[S, S] S #[v, .slice (some a) m c]).run Tryz.prog w = .ok v' w' ∧ w'.ownsRow 0 T k v' (n + m) (xs ++ news) ∧ w.grownBy w' v.ownBlock ∧ (∀ g, v'.ownBlock = some g → v.ownBlock = some g ∨ w.heap.size ≤ g) := by
  obtain ⟨i, hi, hz0, hz1, hz2⟩ := info_parts hI
  have hby : (n + m) * bytes ≤ 140737488355328 := Nat.le_trans (Nat.mul_le_mul hs hb) (by decide)
  obtain ⟨v', w', hr, ho, hg, _⟩ := run_append_own (P := Tryz.prog) w 0 S S T i z k bytes hS hi hz0 hz1 hz2 hk hk0 v n xs h a m c news hl hx h1 (by unfold maxLen; omega) hby (by omega)
  refine ⟨v', w', hr, ho, hg, fun g hv => ?_⟩
  rcases h.2 with ⟨rfl, h0⟩ | ⟨g', cap, cur, rfl, hb, hh, hn, hc, hcs, ht⟩
  · subst h0
    have hxs : xs = [] := List.eq_nil_of_length_eq_zero (by rw [h.1]; omega)
    subst hxs
    obtain ⟨v2, w2, hr2, ho2, _⟩ := run_append_own (P := Tryz.prog) w w.heap.size S S T i z k bytes hS hi hz0 hz1 hz2 hk hk0 (.slice none 0 0) 0 [] (World.ownsRow_nil w _ T k) a m c news hl hx h1 (by unfold maxLen; omega) hby (by omega)
    rw [hr] at hr2
    injection hr2 with e1 e2
    subst e1; subst e2
    exact .inr (World.ownsRow.lt ho2 g hv).1
  · by_cases hroom : n + m ≤ cap
    · have hr2 := run_append_room (P := Tryz.prog) w S S T i hS hi g' n cap cur hh a m c news (by rw [hz1]; exact hl) hx h1 hroom (by rw [hz1, hcs, hl]; have := Nat.mul_le_mul_right k hroom; rw [Nat.add_mul] at this; omega)
      rw [hr] at hr2
      injection hr2 with e1 e2
      subst e1
      exact .inl hv
    · have holds : ∀ j u, xs[j]? = some u → w.cell? ((⟨g', 0, none⟩ : Addr).add j) = some u := World.ownsRow.cells h (g := g') rfl
      have hr2 := run_append_grow (P := Tryz.prog) w S S T i z hS hi hz0 ⟨g', 0, none⟩ n cap xs (by rw [hz1]; exact h.1) holds a m c news (by rw [hz1]; exact hl) hx (by omega) (by omega) (by rw [hz2]; exact growslice_fits (by omega) hby)
      rw [hr] at hr2
      injection hr2 with e1 e2
      subst e1
      simp [Value.ownBlock] at hv
      exact .inr (by omega)
theorem cellsU_one (l : List Du) : ∀ u ∈ cellsU l, u.oneCell' = true := fun u hu => by
  unfold cellsU at hu
  rw [List.mem_flatMap] at hu
  obtain ⟨d, -, hd⟩ := hu
  exact d.cs_one u hd
theorem UR.appN {w W : World} {u v : Value} {l own : List Du} (h : UR w W u l) (ho : USeq W v own) (hne : own ≠ []) (hl : l.length + own.length ≤ 1000000) :
    ∃ v' w', (Builtin.append_ #[36, 36] 36 #[u, v]).run Tryz.prog W = .ok v' w' ∧ UR w w' v' (l ++ own) := by
  obtain ⟨a, cap, rfl, -, h0⟩ := ho
  obtain ⟨b, off, rfl, hlt, hall⟩ := h0.resolve_left hne
  have hpos : 0 < own.length := List.length_pos_iff.2 hne
  obtain ⟨v', w', hr, hw, hg, hv⟩ := appN_run 36 39 4 32 _ Tryz.underlying36 info39 (by rfl) (by omega) (by omega) W u l.length (cellsU l) h.row ⟨b, off, none⟩ own.length cap hpos (cellsU own) (cellsU_len own) (fun j x hx => by
    have hj : j < own.length * 4 := by rw [← cellsU_len]; exact (List.getElem?_eq_some_iff.1 hx).1
    have e : (⟨b, off, none⟩ : Addr).add j = ⟨b, off + j / 4 * 4 + j % 4, none⟩ := by
      rw [Addr.add_lit]; congr 1; omega
    rw [e]
    refine hall (j / 4) (by omega) (j % 4) x ?_
    rw [← cellsU_at (by omega) (j % 4) (by omega), show j / 4 * 4 + j % 4 = j by omega]
    exact hx) (cellsU_one own) (by omega)
  refine ⟨v', w', hr, ?_, fun g' hg' => ?_, below_grown h.bl hg h.own (Nat.le_refl _)⟩
  · rw [cellsU_app2, List.length_append]; exact hw
  · rcases hv g' hg' with h4 | h4
    · exact h.own g' h4
    · have := h.bl.size; omega
end Go.Proofs.YthocnlalahknjaaGreat.Dd
