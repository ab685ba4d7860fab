/- The walk of the law TableTells: it returns true for every table, code, place and number. -/
import Derived.Test.YtbljdjgbjnhcgaaQ3
import Derived.Test.YtbljdjgbjnhcgaaP7
import Derived.Deep.DeepCutAuto
namespace Go.Proofs.Ytbljdjgbjnhcgaa
open Go.RowKit
set_option linter.unusedVariables false

/-- how long the table with another Rate and Haircut is, its error, and the table -/
structure WOut where
  n : Nat
  e : Int
  l : List Cur
open Classical in
noncomputable def wres (cs : List Cur) (len : Nat) (cur x y : Int) : WOut :=
  if (0 ≤ cur ∧ cur < len) ∧ chkT (cs.set cur.toNat ⟨(cAt cs cur.toNat).code, x, y⟩) = 0 then ⟨len, 0, cs.set cur.toNat ⟨(cAt cs cur.toNat).code, x, y⟩⟩ else ⟨0, 1, []⟩
def WR (r : WOut) (w : World) (e : Ending) (w' : World) : Prop :=
  ∃ p c, e = .returned (.tuple #[.slice p r.n c, .int .i64 r.e]) ∧ Tab w' p r.n r.l ∧ Below w.heap.size w w'
theorem wres_no {cs : List Cur} {len : Nat} {cur : Int} (h : ¬ (0 ≤ cur ∧ cur < len)) (x y : Int) : wres cs len cur x y = ⟨0, 1, []⟩ := by
  unfold wres; rw [if_neg (fun k => h k.1)]
theorem WithOut.wr {cs : List Cur} {len k : Nat} {x y : Int} {w : World} {e : Ending} {w' : World} (hk : k < len) (h : WithOut (cs.set k ⟨(cAt cs k).code, x, y⟩) len w e w') : WR (wres cs len k x y) w e w' := by
  obtain ⟨hb, ⟨hn, rfl⟩ | ⟨hy, g, c, rfl, hT⟩⟩ := h
  · unfold wres; rw [if_neg (fun t => hn (by simpa using t.2))]; exact ⟨none, 0, rfl, tab_nil _, hb⟩
  · unfold wres; rw [if_pos ⟨by omega, by simpa using hy⟩]; exact ⟨_, c, rfl, by simpa using hT, hb⟩
theorem wr_none {r : WOut} (hr : r = ⟨0, 1, []⟩) {w : World} {e : Ending} {w' : World} (h : e = .returned (.tuple #[.slice none 0 0, .int .i64 1]) ∧ w = w') : WR r w e w' := by
  obtain ⟨rfl, rfl⟩ := h; subst hr; exact ⟨none, 0, rfl, tab_nil _, Below.refl _ _⟩

theorem rate_wr (p : Option Addr) (len cap : Nat) (cs : List Cur) (cur x : Int) (w : World) (hT : Tab w p len cs) (hl : len ≤ 1000) (hx : Amt x) :
    Calls Try.prog 13 #[.slice p len cap, .int .i64 cur, .int .i64 x] w (WR (wres cs len cur x (cAt cs cur.toNat).cut) w) := by
  by_cases h : 0 ≤ cur ∧ cur < len
  · obtain ⟨k, rfl⟩ : ∃ k : Nat, cur = k := ⟨cur.toNat, by omega⟩
    exact (withRate_any p len cap cs k x w hT (by omega) hl hx).mono fun e w' h' => WithOut.wr (by omega) h'
  · exact (withRate_none p len cap cur x w h).mono fun e w' h' => wr_none (wres_no h _ _) h'
theorem cut_wr (p : Option Addr) (len cap : Nat) (cs : List Cur) (cur x : Int) (w : World) (hT : Tab w p len cs) (hl : len ≤ 1000) (hx : Amt x) :
    Calls Try.prog 15 #[.slice p len cap, .int .i64 cur, .int .i64 x] w (WR (wres cs len cur (cAt cs cur.toNat).rate x) w) := by
  by_cases h : 0 ≤ cur ∧ cur < len
  · obtain ⟨k, rfl⟩ : ∃ k : Nat, cur = k := ⟨cur.toNat, by omega⟩
    exact (withCut_any p len cap cs k x w hT (by omega) hl hx).mono fun e w' h' => WithOut.wr (by omega) h'
  · exact (withCut_none p len cap cur x w h).mono fun e w' h' => wr_none (wres_no h _ _) h'
theorem with_wr (p : Option Addr) (len cap : Nat) (cs : List Cur) (cur x y : Int) (w : World) (hT : Tab w p len cs) (hl : len ≤ 1000) (hx : Amt x) (hy : Amt y) :
    Calls Try.prog 14 #[.slice p len cap, .int .i64 cur, .int .i64 x, .int .i64 y] w (WR (wres cs len cur x y) w) := by
  by_cases h : 0 ≤ cur ∧ cur < len
  · obtain ⟨k, rfl⟩ : ∃ k : Nat, cur = k := ⟨cur.toNat, by omega⟩
    exact (withR_any p len cap cs k x y w hT (by omega) hl hx hy).mono fun e w' h' => WithOut.wr (by omega) h'
  · exact (withR_none p len cap cur x y w h).mono fun e w' h' => wr_none (wres_no h _ _) h'

/-- whether there is such a currency, as a slot's value -/
def HasRel (len : Nat) (cur : Int) (v : Value) : Prop := (v = .bool true ∧ 0 ≤ cur ∧ cur < len) ∨ (v = .bool false ∧ ¬ (0 ≤ cur ∧ cur < len))
/-- what the law keeps of the currency's Haircut and Rate -/
def TellRel (cs : List Cur) (len : Nat) (cur n : Int) (w : World) (c r : Value) (wc : World) : Prop :=
  ∃ (x y : Int) (nq : Nat), c = .int .i64 x ∧ r = .int .i64 y ∧ Amt x ∧ Amt y ∧ wres cs len cur n x = wres cs len cur n (cAt cs cur.toNat).cut ∧
    wres cs len cur y n = wres cs len cur (cAt cs cur.toNat).rate n ∧ wc = w.drewN nq

set_option maxHeartbeats 2000000 in
set_option maxRecDepth 100000 in
theorem tells_large (p : Option Addr) (len cap : Nat) (cs : List Cur) (s : ByteArray) (cur n : Int) (w : World) (hs : Tab w p len cs) (hss : s.size ≤ 140737488351232) (hL : largeB cs = true ∨ 1000 < s.size) :
    Calls Try.prog 3 #[.slice p len cap, .string s, .int .i64 cur, .int .i64 n] w fun e w' => e = .returned (.bool true) ∧ Below w.heap.size w w' := by
  go_enter Try.func3, Try.ntmps3
  go_wp2_with fail
  refine (awake_any _).mono ?_
  rintro e w1 ⟨rfl, hb1⟩
  have hs1 := hs.kept hb1
  have hcl := large_any p len cap cs w1 hs1
  replace hb1 := Lib.hid hb1
  clear hs
  by_cases hl : largeB cs = true
  · rw [hl] at hcl
    replace hcl := Lib.hid hcl
    clear hs1 hL hl
    go_wp2_with fail
    refine hcl.out.mono ?_
    rintro e w2 ⟨rfl, rfl⟩
    go_wp2_with fail
    go_ret
    exact ⟨rfl, hb1.out⟩
  · have hS : 1000 < s.size := hL.resolve_left hl
    have t0 : decide ((1000 : Int) < (s.size : Int)) = true := by simp; omega
    rw [show largeB cs = false by simpa using hl] at hcl
    replace hcl := Lib.hid hcl
    clear hs1 hL hl
    go_wp2_with fail
    refine hcl.out.mono ?_
    rintro e w2 ⟨rfl, rfl⟩
    go_wp2_with fail
    go_ret
    exact ⟨rfl, hb1.out⟩

set_option maxHeartbeats 8000000 in
set_option maxRecDepth 100000 in
theorem tells_main (p : Option Addr) (len cap : Nat) (cs : List Cur) (s : ByteArray) (cur n : Int) (w : World) (hs : Tab w p len cs) (hL : largeB cs = false) (hS : s.size ≤ 1000) (hn : Amt n) :
    Calls Try.prog 3 #[.slice p len cap, .string s, .int .i64 cur, .int .i64 n] w fun e w' => e = .returned (.bool true) ∧ Below w.heap.size w w' := by
  have hle := (large_no hL).2
  have hlen := hs.1
  have hl1 : len ≤ 1000 := by omega
  have hzz := hs.2.1
  have t0 : decide ((1000 : Int) < (s.size : Int)) = false := by simp; omega
  go_enter Try.func3, Try.ntmps3
  go_wp2_with fail
  refine (awake_any _).mono ?_
  rintro e w1 ⟨rfl, hb1⟩
  replace hs := hs.kept hb1
  have hcl := large_any p len cap cs w1 hs
  rw [hL] at hcl
  replace hcl := Lib.hid hcl
  replace hb1 := Lib.hid hb1
  have c1 := fun w hs => find_any p len cap cs s w hs
  have c2 := fun w hs => findR_any p len cap cs s w hs
  have c3 := fun w hs => check_any p len cap cs w hs
  have c4 := fun w hs => checkR_any p len cap cs w hs
  generalize findV (findIx s cs) = fv at *
  generalize (findIx s cs).isSome = fb at *
  replace c1 := Lib.hid c1
  replace c2 := Lib.hid c2
  replace hs := Lib.hid hs
  replace hlen := Lib.hid hlen
  replace hle := Lib.hid hle
  replace hzz := Lib.hid hzz
  clear hL
  by_cases hC : chkT cs = 0
  · rw [hC] at c3 c4
    replace c3 := Lib.hid c3
    replace c4 := Lib.hid c4
    replace hC := Lib.hid hC
    go_wp2_with fail
    refine hcl.out.mono ?_
    rintro e w2 ⟨rfl, rfl⟩
    go_wp2_with fail
    refine (c1.out _ hs.out).mono ?_
    rintro e w2 ⟨rfl, hb2⟩
    replace hs := Lib.hid (hs.out.kept hb2)
    replace hb2 := Lib.hid (chain_trans hb1.out hb2)
    clear hb1 hcl c1
    go_wp2_with fail
    refine (c2.out _ hs.out).mono ?_
    rintro e w3 ⟨rfl, rfl⟩
    go_wp2_with fail
    refine (c3.out _ hs.out).mono ?_
    rintro e w3 ⟨rfl, hb3⟩
    replace hs := Lib.hid (hs.out.kept hb3)
    replace hb3 := Lib.hid (chain_trans hb2.out hb3)
    clear hb2 c2
    go_wp2_with fail
    refine (c4.out _ hs.out).mono ?_
    rintro e w4 ⟨rfl, hb4⟩
    replace hs := Lib.hid (hs.out.kept hb4)
    replace hb4 := Lib.hid (chain_trans hb3.out hb4)
    clear hb3 c3
    go_wp2_with fail
    refine (c4.out _ hs.out).mono ?_
    rintro e w5 ⟨rfl, hb5⟩
    replace hs := Lib.hid (hs.out.kept hb5)
    replace hb5 := Lib.hid (chain_trans hb4.out hb5)
    clear hb4 c4
    go_upto_region 12 with (fail)
    go_cut [69] (fun v wc => HasRel len cur v ∧ wc = w5)
    case first =>
      by_cases h0 : 0 ≤ cur
      · have z0 : decide ((0 : Int) ≤ cur) = true := by simpa using h0
        by_cases h1 : cur < len
        · have z1 : decide (cur < (len : Int)) = true := by simpa using h1
          go_wp2_with fail
          go_meet
          exact ⟨.inl ⟨rfl, h0, h1⟩, rfl⟩
        · have z1 : decide (cur < (len : Int)) = false := by simpa using h1
          go_wp2_with fail
          go_meet
          exact ⟨.inr ⟨rfl, by omega⟩, rfl⟩
      · have z0 : decide ((0 : Int) ≤ cur) = false := by simpa using h0
        go_wp2_with fail
        go_meet
        exact ⟨.inr ⟨rfl, by omega⟩, rfl⟩
    case rest =>
    obtain ⟨hv, rfl⟩ := hcut
    replace hv := Lib.hid hv
    go_upto_if 69 with (fail)
    go_cut [13, 14] (fun c r wc' => TellRel cs len cur n wc c r wc')
    case first =>
      rcases hv.out with ⟨rfl, h⟩ | ⟨rfl, h⟩
      · obtain ⟨k, rfl⟩ : ∃ k : Nat, cur = k := ⟨cur.toNat, by omega⟩
        have hkl : k < len := by omega
        clear hv
        obtain ⟨_, _, _, hcells⟩ := hs.out
        obtain ⟨b, off, rfl, hblt, hc⟩ := hcells.resolve_left (by omega)
        obtain ⟨_, d1, d2⟩ := hc k hkl
        obtain ⟨_, a1, a2⟩ := hzz.out k
        have ht : cAt cs (k : Int).toNat = cAt cs k := rfl
        replace ht := Lib.hid ht
        clear hc hcells h
        go_wp2_with fail
        go_quiet (fail)
        go_wp2_with fail
        go_meet
        exact ⟨_, _, nq, rfl, rfl, a2, a1, rfl, rfl, rfl⟩
      · have e1 := Lib.hid (wres_no (cs := cs) h)
        clear h hv
        go_wp2_with fail
        go_meet
        exact ⟨0, 0, 0, rfl, rfl, ⟨by decide, by decide⟩, ⟨by decide, by decide⟩, by rw [e1.out, e1.out], by rw [e1.out, e1.out], rfl⟩
    case rest =>
      obtain ⟨x, y, nq, rfl, rfl, ax, ay, e1, e2, rfl⟩ := hcut
      have hb6 : Below wc.heap.size wc (wc.drewN nq) := below_drewN (Below.refl _ _) nq
      replace hs := Lib.hid (hs.out.kept hb6)
      replace hb6 := Lib.hid (chain_trans hb5.out hb6)
      generalize wc.drewN nq = w6 at *
      have q1 := fun w hs => rate_wr p len cap cs cur n w hs hl1 hn
      have q2 := fun w hs => with_wr p len cap cs cur n x w hs hl1 hn ax
      have q3 := fun w hs => cut_wr p len cap cs cur n w hs hl1 hn
      have q4 := fun w hs => with_wr p len cap cs cur y n w hs hl1 ay hn
      rw [e1] at q2
      rw [e2] at q4
      clear e1 e2
      generalize wres cs len cur n (cAt cs cur.toNat).cut = r1 at *
      generalize wres cs len cur (cAt cs cur.toNat).rate n = r2 at *
      obtain ⟨n1, e1, l1⟩ := r1
      obtain ⟨n2, e2, l2⟩ := r2
      replace q1 := Lib.hid q1
      replace q2 := Lib.hid q2
      replace q3 := Lib.hid q3
      replace q4 := Lib.hid q4
      clear hb5 ax ay hn
      go_wp2_with fail
      refine (q1.out _ hs.out).mono ?_
      rintro e w7 ⟨p1, k1, rfl, hp1, hb7⟩
      replace hs := Lib.hid (hs.out.kept hb7)
      replace hb7 := Lib.hid (chain_trans hb6.out hb7)
      replace hp1 := Lib.hid hp1
      clear hb6 q1
      go_wp2_with fail
      refine (q2.out _ hs.out).mono ?_
      rintro e w8 ⟨p2, k2, rfl, hp2, hb8⟩
      replace hs := Lib.hid (hs.out.kept hb8)
      replace hp1 := Lib.hid (hp1.out.kept hb8)
      replace hb8 := Lib.hid (chain_trans hb7.out hb8)
      replace hp2 := Lib.hid hp2
      clear hb7 q2
      go_wp2_with fail
      refine (q3.out _ hs.out).mono ?_
      rintro e w9 ⟨p3, k3, rfl, hp3, hb9⟩
      replace hs := Lib.hid (hs.out.kept hb9)
      replace hp1 := Lib.hid (hp1.out.kept hb9)
      replace hp2 := Lib.hid (hp2.out.kept hb9)
      replace hb9 := Lib.hid (chain_trans hb8.out hb9)
      replace hp3 := Lib.hid hp3
      clear hb8 q3
      go_wp2_with fail
      refine (q4.out _ hs.out).mono ?_
      rintro e w10 ⟨p4, k4, rfl, hp4, hb10⟩
      replace hp1 := Lib.hid (hp1.out.kept hb10)
      replace hp2 := Lib.hid (hp2.out.kept hb10)
      replace hp3 := Lib.hid (hp3.out.kept hb10)
      replace hb10 := Lib.hid (chain_trans hb9.out hb10)
      replace hp4 := Lib.hid hp4
      clear hb9 q4 hs
      go_wp2_with fail
      refine (same_any p1 p2 n1 k1 k2 l1 _ hp1.out hp2.out).mono ?_
      rintro e w11 ⟨rfl, hb11⟩
      replace hp3 := Lib.hid (hp3.out.kept hb11)
      replace hp4 := Lib.hid (hp4.out.kept hb11)
      replace hb11 := Lib.hid (chain_trans hb10.out hb11)
      clear hb10 hp1 hp2
      go_wp2_with fail
      refine (same_any p3 p4 n2 k3 k4 l2 _ hp3.out hp4.out).mono ?_
      rintro e w12 ⟨rfl, hb12⟩
      replace hb12 := Lib.hid (chain_trans hb11.out hb12)
      clear hb11 hp3 hp4
      go_wp2_with fail
      go_ret
      exact ⟨rfl, hb12.out⟩
  · generalize chkT cs = m at *
    have hn : (m != 0) = true := by simpa using hC
    replace c3 := Lib.hid c3
    replace c4 := Lib.hid c4
    replace hC := Lib.hid hC
    go_wp2_with fail
    refine hcl.out.mono ?_
    rintro e w2 ⟨rfl, rfl⟩
    go_wp2_with fail
    refine (c1.out _ hs.out).mono ?_
    rintro e w2 ⟨rfl, hb2⟩
    replace hs := Lib.hid (hs.out.kept hb2)
    replace hb2 := Lib.hid (chain_trans hb1.out hb2)
    clear hb1 hcl c1
    go_wp2_with fail
    refine (c2.out _ hs.out).mono ?_
    rintro e w3 ⟨rfl, rfl⟩
    go_wp2_with fail
    refine (c3.out _ hs.out).mono ?_
    rintro e w3 ⟨rfl, hb3⟩
    replace hs := Lib.hid (hs.out.kept hb3)
    replace hb3 := Lib.hid (chain_trans hb2.out hb3)
    clear hb2 c2
    go_wp2_with fail
    refine (c4.out _ hs.out).mono ?_
    rintro e w4 ⟨rfl, hb4⟩
    replace hs := Lib.hid (hs.out.kept hb4)
    replace hb4 := Lib.hid (chain_trans hb3.out hb4)
    clear hb3 c3
    go_wp2_with fail
    refine (c4.out _ hs.out).mono ?_
    rintro e w5 ⟨rfl, hb5⟩
    replace hb5 := Lib.hid (chain_trans hb4.out hb5)
    clear hb4 c4 hs
    go_wp2_with fail
    go_ret
    exact ⟨rfl, hb5.out⟩

theorem tableTells_any (p : Option Addr) (len cap : Nat) (cs : List Cur) (s : ByteArray) (cur n : Int) (w : World) (hs : Tab w p len cs) (hss : s.size ≤ 140737488351232) (hcur : Amt cur) (hn : Amt n) :
    Calls Try.prog 3 #[.slice p len cap, .string s, .int .i64 cur, .int .i64 n] w fun e w' => e = .returned (.bool true) ∧ Below w.heap.size w w' := by
  by_cases h : largeB cs = true ∨ 1000 < s.size
  · exact tells_large p len cap cs s cur n w hs hss h
  · exact tells_main p len cap cs s cur n w hs (by by_cases h1 : largeB cs = true; exact absurd (.inl h1) h; simpa using h1) (by omega) hn
end Go.Proofs.Ytbljdjgbjnhcgaa
