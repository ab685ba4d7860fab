/- What is kept is what would be reckoned anew: the law's walk. -/
import Derived.Test.YtllhpdohahoelaaWL
import Derived.Test.YtllhpdohahoelaaQ3
namespace Go.Proofs.Ytllhpdohahoelaa
open Go.RowKit
set_option linter.unusedVariables false

/-- the worths are of the ledger's size; their balances are the ledger's -/
structure Siz (l : LM) (x : WM) : Prop where
  nm : x.nm = l.nm
  nc : x.cs.length = l.nc
def Syn (l : LM) (x : WM) : Prop := ∀ j, j < x.nm → x.S j = l.row j
theorem row_eq {l k : LM} (h : l.like k) {j : Nat} (hB : ∀ c, k.B j c = l.B j c) : k.row j = l.row j := by
  funext c
  unfold LM.row LM.get LM.has
  rw [h.1, h.2, Int.toNat_natCast, Int.toNat_natCast, hB]
theorem inn_row (l : LM) (m c a : Int) {j : Nat} (hj : (j : Int) ≠ m) : (l.inn m c a).2.row j = l.row j := by
  unfold LM.inn
  split
  · rename_i h1
    split
    · show LM.row ⟨l.nm, l.nc, upd2 l.B m.toNat c.toNat (l.B m.toNat c.toNat + a), upd l.N c.toNat (l.N c.toNat + a)⟩ j = l.row j
      refine row_eq (l := l) (k := ⟨l.nm, l.nc, upd2 l.B m.toNat c.toNat (l.B m.toNat c.toNat + a), upd l.N c.toNat (l.N c.toNat + a)⟩) ⟨rfl, rfl⟩ fun d => ?_
      show upd2 l.B m.toNat c.toNat _ j d = _
      rw [upd2_other]
      rintro ⟨e, _⟩
      have := LM.has_iff.1 h1.1
      omega
    · rfl
  · rfl
theorem moved_nm (x : WM) (l : LM) (m : Int) : (x.moved l m).nm = x.nm ∧ (x.moved l m).cs = x.cs := by unfold WM.moved; split <;> exact ⟨rfl, rfl⟩
theorem moved_syn {l k : LM} {x : WM} {m : Int} (h : Syn l x) (hr : ∀ j : Nat, (j : Int) ≠ m → k.row j = l.row j) (hm : x.has m = false → ∀ j, j < x.nm → k.row j = l.row j) : Syn k (x.moved k m) := by
  intro j hj
  rw [(moved_nm x k m).1] at hj
  unfold WM.moved
  cases hh : x.has m with
  | false => rw [if_neg (by simp), h j hj, hm hh j hj]
  | true =>
    rw [if_pos rfl]
    obtain ⟨i, rfl, hi⟩ := WM.has_nat hh
    dsimp only
    rw [Int.toNat_natCast]
    by_cases e : j = i
    · subst e; rw [if_pos rfl]
    · rw [if_neg e, h j hj, hr j (by omega)]
theorem by_nm (x : WM) (cs : List Cur) (h : cs.length = x.cs.length) : (x.by cs).2.nm = x.nm ∧ (x.by cs).2.S = x.S ∧ (x.by cs).2.cs.length = x.cs.length := by
  unfold WM.by; split
  · exact ⟨rfl, rfl, h⟩
  · exact ⟨rfl, rfl, rfl⟩
theorem rate_nm (x : WM) (c a : Int) : (x.rate c a).2.nm = x.nm ∧ (x.rate c a).2.S = x.S ∧ (x.rate c a).2.cs.length = x.cs.length := by
  unfold WM.rate; split
  · exact by_nm _ _ (List.length_set ..)
  · exact ⟨rfl, rfl, rfl⟩
theorem cutt_nm (x : WM) (c a : Int) : (x.cutt c a).2.nm = x.nm ∧ (x.cutt c a).2.S = x.S ∧ (x.cutt c a).2.cs.length = x.cs.length := by
  unfold WM.cutt; split
  · exact by_nm _ _ (List.length_set ..)
  · exact ⟨rfl, rfl, rfl⟩
theorem opW_siz {l : LM} {x : WM} (hg : l.Good) (h : Siz l x) (o : WOp) : Siz (opW l x o).2.1 (opW l x o).2.2 ∧ (opW l x o).2.2.nm = x.nm := by
  have hi := (inn_good hg o.m o.c o.a).2.1
  have hp := (post_good hg o.ps).2.1
  have hm := fun k => moved_nm x k o.m
  have hr := rate_nm x o.c o.a
  have hc := cutt_nm x o.c o.a
  obtain ⟨h1, h2⟩ := h
  unfold opW
  split
  · exact ⟨⟨by show _ = _; rw [(hm _).1, hi.1]; exact h1, by show _ = _; rw [(hm _).2, hi.2]; exact h2⟩, (hm _).1⟩
  split
  · exact ⟨⟨by rw [hi.1]; exact h1, by rw [hi.2]; exact h2⟩, rfl⟩
  split
  · exact ⟨⟨by rw [hp.1]; exact h1, by rw [hp.2]; exact h2⟩, rfl⟩
  split
  · exact ⟨⟨by rw [hr.1]; exact h1, by rw [hr.2.2]; exact h2⟩, hr.1⟩
  split
  · exact ⟨⟨by rw [hc.1]; exact h1, by rw [hc.2.2]; exact h2⟩, hc.1⟩
  · exact ⟨⟨by rw [(hm _).1]; exact h1, by rw [(hm _).2]; exact h2⟩, (hm _).1⟩
theorem opW_syn {l : LM} {x : WM} (hz : Siz l x) (h : Syn l x) (o : WOp) (h4 : o.Do ≠ 4) : Syn (opW l x o).2.1 (opW l x o).2.2 := by
  unfold opW
  split
  · refine moved_syn h (fun j hj => inn_row l _ _ _ hj) fun hh j hj => ?_
    refine inn_row l _ _ _ fun e => ?_
    rw [← e] at hh
    unfold WM.has at hh
    simp at hh
    omega
  split
  · intro j hj
    show (if j < x.nm then _ else _) = _
    rw [if_pos (by exact hj)]
  split
  · intro j hj
    show (x.rate o.c o.a).2.S j = _
    rw [(rate_nm x o.c o.a).2.1]
    exact h j (by rw [← (rate_nm x o.c o.a).1]; exact hj)
  split
  · intro j hj
    show (x.cutt o.c o.a).2.S j = _
    rw [(cutt_nm x o.c o.a).2.1]
    exact h j (by rw [← (cutt_nm x o.c o.a).1]; exact hj)
  · exact moved_syn h (fun j _ => rfl) fun _ j hj => rfl
theorem opW_good {l : LM} (hg : l.Good) (x : WM) (o : WOp) : (opW l x o).2.1.Good := by
  unfold opW
  split
  · exact (inn_good hg _ _ _).1
  split
  · exact (inn_good hg _ _ _).1
  split
  · exact (post_good hg _).1
  split
  · exact hg
  split <;> exact hg
/-- reckoned anew -/
theorem anew_eq {l : LM} {x : WM} (hz : Siz l x) (h : Syn l x) {k : Nat} (hk : k < x.nm) : (WM.new x.cs l).net (k : Int) = x.net (k : Int) ∧ (WM.new x.cs l).short (k : Int) = x.short (k : Int) := by
  have e1 : x.has (k : Int) = true := by unfold WM.has; simp; omega
  have e2 : (WM.new x.cs l).has (k : Int) = true := by unfold WM.has WM.new; simp; rw [← hz.nm]; omega
  unfold WM.net WM.short
  rw [e1, e2, if_pos rfl, if_pos rfl, if_pos rfl, if_pos rfl, Int.toNat_natCast, h k hk]
  exact ⟨rfl, rfl⟩
theorem iff_nil {x : WM} {k : Nat} (hk : k < x.nm) (h1 : (x.net (k : Int)).2 = 0) (h2 : (x.short (k : Int)).2 = 0) : x.iff (k : Int) [] = ((x.net (k : Int)).1, (x.short (k : Int)).1, 0) := by
  have e1 : x.has (k : Int) = true := by unfold WM.has; simp; omega
  unfold WM.net at h1 ⊢
  unfold WM.short at h2 ⊢
  unfold WM.iff
  rw [e1, if_pos rfl] at h1 h2
  rw [e1, if_pos rfl, if_pos rfl, if_pos rfl]
  rw [ifM_known rfl rfl]
  exact if_pos ⟨h1, h2⟩
theorem WP.chk {P : Nat → Prop} {w : World} {b lb : Nat} {x : WM} (h : WP P w b lb x) : chkT x.cs = 0 := by obtain ⟨_, _, _, _, h⟩ := h; exact h.chk
theorem prow_nil (w : World) : PRow w none 0 [] := ⟨rfl, (fun q hq => by simp at hq), .inl rfl⟩
theorem WSt.two {G : Nat → Prop} {lb b : Nat} {l : LM} {x : WM} {w w' : World} (h : WSt G lb b l x w) (hb : Below w.heap.size w w') : ∃ P, WP P w' b lb x := (h.below hb).wp
theorem WP.below {P : Nat → Prop} {w w' : World} {b lb : Nat} {x : WM} (h : WP P w b lb x) (hb : Below w.heap.size w w') : WP P w' b lb x := (WP.live b lb x).kept h (Kp.of_below (F := fun _ => False) hb) (fun _ _ _ h => h)

/-- the law's first way -/
structure KW (wb : World) (lb b many : Nat) (l : LM) (x : WM) (wr : World) : Prop where
  st : WSt (fun j => j < wb.heap.size) lb b l x wr
  siz : Siz l x
  nm : x.nm = many
  blw : Below wb.heap.size wb wr
theorem KW.below {wb wr w' : World} {lb b many : Nat} {l : LM} {x : WM} (h : KW wb lb b many l x wr) (hb : Below wr.heap.size wr w') : KW wb lb b many l x w' := ⟨h.st.below hb, h.siz, h.nm, h.blw.trans (hb.mono h.blw.size)⟩
theorem KW.dow {wb wr w' : World} {lb b many : Nat} {l : LM} {x : WM} {o : WOp} {e : Ending} (h : KW wb lb b many l x wr) (hd : DoneW (fun j => j < wb.heap.size) lb b (opW l x o) wr e w') : e = .returned (.int .i64 (opW l x o).1) ∧ KW wb lb b many (opW l x o).2.1 (opW l x o).2.2 w' := by
  obtain ⟨he, hs, hK⟩ := hd
  obtain ⟨h1, h2⟩ := opW_siz h.st.good h.siz o
  exact ⟨he, hs, h1, h2.trans h.nm, h.blw.trans (hK.below h.blw.size fun j hj e => e hj)⟩
/-- the last way: both worths are read -/
structure KR (wb : World) (lb b b2 : Nat) (x y : WM) (wr : World) : Prop where
  one : ∃ P, WP P wr b lb x
  two : ∃ P, WP P wr b2 lb y
  blw : Below wb.heap.size wb wr
theorem KR.below {wb wr w' : World} {lb b b2 : Nat} {x y : WM} (h : KR wb lb b b2 x y wr) (hb : Below wr.heap.size wr w') : KR wb lb b b2 x y w' := by
  obtain ⟨⟨P, hP⟩, ⟨Q, hQ⟩, h3⟩ := h
  exact ⟨⟨P, hP.below hb⟩, ⟨Q, hQ.below hb⟩, h3.trans (hb.mono h3.size)⟩
/-- an operation that isn't told by Moved is told here -/
def WOp.told (o : WOp) : WOp := if o.Do = 4 then ⟨0, o.m, o.c, o.a, o.p, o.len, o.cap, o.ps⟩ else o
theorem told_ok {o : WOp} {w : World} (h : o.Ok w) : o.told.Ok w := by unfold WOp.told; split; exact ⟨h.a, h.b⟩; exact h
theorem told_len (o : WOp) : o.told.len = o.len := by unfold WOp.told; split <;> rfl
theorem told_arr (o : WOp) : o.told.arr = #[.int .i64 (if o.Do = 4 then 0 else o.Do), .int .i64 o.m, .int .i64 o.c, .int .i64 o.a, .slice o.p o.len o.cap] := by
  unfold WOp.told
  split <;> rfl
theorem told_do (o : WOp) : o.told.Do ≠ 4 := by
  unfold WOp.told
  split
  · show (0 : Int) ≠ 4; decide
  · assumption

set_option maxHeartbeats 8000000 in
set_option maxRecDepth 100000 in
theorem worthKept_any (p : Option Addr) (len cap : Nat) (cs : List Cur) (mb : Int) (q : Option Addr) (n c2 : Nat) (ops : List WOp) (w : World) (hT : Tab w p len cs) (hmb : 0 ≤ mb ∧ mb ≤ 255) (ho : OpsW w q n ops) :
    Calls Try.prog 4 #[.slice p len cap, .int .u8 mb, .slice q n c2] w fun e w' => e = .returned (.bool true) ∧ Below w.heap.size w w' := by
  have hA := Lib.hid (awake_any w)
  replace hT := Lib.hid hT
  replace ho := Lib.hid ho
  go_enter Try.func4, Try.ntmps4
  go_upto_region 3 with (first | (go_at_call 6; (with_reducible refine hA.out.mono ?_); rintro e w1 ⟨rfl, hB1⟩))
  have hT1 := hT.out.kept hB1
  have ho1 := ho.out.kept hB1
  have cL := large_any q n c2 ops w1 ho1
  have cC := fun w (h : Below w1.heap.size w1 w) => checkR_any p len cap cs w (hT1.kept h)
  replace hB1 := Lib.hid hB1
  replace hT1 := Lib.hid hT1
  replace ho1 := Lib.hid ho1
  cases hc1 : manyO ops with
  | true =>
    rw [hc1] at cL
    replace cL := Lib.hid cL
    go_wp2_with (first | (go_at_call 7; (with_reducible refine cL.out.mono ?_); rintro e w2 ⟨rfl, rfl⟩))
    go_ret
    exact ⟨rfl, hB1.out⟩
  | false =>
  rw [hc1] at cL
  replace cL := Lib.hid cL
  by_cases hl20 : 20 < len
  · have hz : (20 : Int) < (len : Int) := by omega
    go_wp2_with (first | (go_at_call 7; (with_reducible refine cL.out.mono ?_); rintro e w2 ⟨rfl, rfl⟩))
    go_ret
    exact ⟨rfl, hB1.out⟩
  have hz : ¬ (20 : Int) < (len : Int) := by omega
  have cC1 := cC w1 (Below.refl _ _)
  clear cC
  by_cases hc : chkT cs = 0
  · rw [hc] at cC1
    replace cC1 := Lib.hid cC1
    have hlen := hT1.out.1
    have h1 := (chk_ok hc).1
    have h8 := (chk_ok hc).2.1
    rw [hlen] at h1 h8
    have hn30 : n ≤ 30 := by have := many_len hc1; have := ho1.out.1; omega
    replace hlen := Lib.hid hlen
    replace hc := Lib.hid hc
    replace hc1 := Lib.hid hc1
    go_upto_region 6 with (first | (go_at_call 7; (with_reducible refine cL.out.mono ?_); rintro e w2 ⟨rfl, rfl⟩) | (go_at_call 11; (with_reducible refine cC1.out.mono ?_); rintro e w2 ⟨rfl, hB2⟩))
    obtain ⟨M, hM⟩ : ∃ M : Nat, mb % 16 + 1 = M := ⟨(mb % 16 + 1).toNat, by omega⟩
    have hM1 : 1 ≤ M ∧ M ≤ 16 := by omega
    rw [hM]
    have hT2 := hT1.out.kept hB2
    have ho2 := ho1.out.kept hB2
    have hok : newOk (M : Int) (len : Int) = true := newOk_iff.2 ⟨by omega, by omega, by omega, by omega⟩
    have hB02 := hB1.out.trans (hB2.mono hB1.out.size)
    have cN : Calls Try.prog 8 #[.int .i64 (M : Int), .int .i64 (len : Int)] w2 fun e w' => ∃ b, e = .returned (.tuple #[.pointer (some ⟨b, 0, none⟩), .int .i64 0]) ∧ PL (fun j => w2.heap.size ≤ j) w' b (LM.new M len) ∧ Below w2.heap.size w2 w' := by
      refine (new_any _ _ w2).mono ?_
      rintro e w' ⟨h1, _, h3⟩
      obtain ⟨b, e1, hL⟩ := h1 hok
      simp only [Int.toNat_natCast] at hL
      exact ⟨b, e1, hL, h3⟩
    have hg0 : (LM.new M len).Good := by
      obtain ⟨g1, g2⟩ := new_ok (nm := M) (nc := len) (by omega) (by omega)
      exact ⟨g1, g2⟩
    have hn0 : (LM.new M len).nm = M := rfl
    have hd0 : (LM.new M len).nc = len := rfl
    generalize LM.new M len = l0 at *
    replace cN := Lib.hid cN
    replace hok := Lib.hid hok
    replace hg0 := Lib.hid hg0
    replace hn0 := Lib.hid hn0
    replace hd0 := Lib.hid hd0
    replace hM := Lib.hid hM
    replace hT2 := Lib.hid hT2
    replace ho2 := Lib.hid ho2
    replace hB2 := Lib.hid hB2
    replace hB02 := Lib.hid hB02
    clear cL cC1
    go_upto_region 7 with (first | (go_at_call 8; (with_reducible refine cN.out.mono ?_); rintro e w3 ⟨lb, rfl, hL3, hB3⟩))
    have hT3 := hT2.out.kept hB3
    have cW : Calls Try.prog 10 #[.slice p len cap, .pointer (some ⟨lb, 0, none⟩)] w3 fun e w' => ∃ b, e = .returned (.tuple #[.pointer (some ⟨b, 0, none⟩), .int .i64 0]) ∧ KW w2 lb b M l0 (WM.new cs l0) w' ∧ Syn l0 (WM.new cs l0) := by
      refine (wnew_any w3 hT3 hL3 hg0.out).mono ?_
      rintro e w' ⟨_, _, h3, h4⟩
      obtain ⟨b, e1, hW⟩ := h3 hc.out (by rw [hd0.out]; exact hlen.out)
      exact ⟨b, e1, ⟨WSt.made hL3 hg0.out (fun j hj hp hg => by omega) (fun j hj => by have := hB3.size; omega) hW h4, ⟨rfl, by rw [hd0.out]; exact hlen.out⟩, hn0.out, hB3.trans (h4.mono hB3.size)⟩, fun j hj => rfl⟩
    replace cW := Lib.hid cW
    replace hT3 := Lib.hid hT3
    replace hL3 := Lib.hid hL3
    replace hB3 := Lib.hid hB3
    go_upto_region 11 with (first | (go_at_call 10; (with_reducible refine cW.out.mono ?_); rintro e w4 ⟨b, rfl, hK4, hY4⟩; replace hK4 := Lib.hid hK4; replace hY4 := Lib.hid hY4))
    go_loopw [71] (fun i wr => ∃ (k : Nat) (l : LM) (x : WM), k ≤ n ∧ i = .int .i64 (k : Int) ∧ Hid (KW w2 lb b M l x wr) ∧ Hid (Syn l x)) (fun i _ => n - (intOf i).toNat)
    case atStart => exact ⟨0, l0, _, by omega, rfl, hK4, hY4⟩
    case round =>
      obtain ⟨k, l, x, hk, rfl, hS, hY⟩ := hrel
      by_cases hkn : k < n
      · have kz : (k : Int) < (n : Int) := by omega
        have hrow := ho2.out.kept hS.out.blw
        obtain ⟨y, hy⟩ : ∃ y, ops[k]? = some y := ⟨_, List.getElem?_eq_getElem (by have := ho2.out.1; omega)⟩
        obtain ⟨rb, off, rfl, z0, z1, z2, z3, z4⟩ := hrow.at hy
        have hyok := (hrow.2.2.1 y (List.mem_of_getElem? hy)).1
        have hyl : y.len ≤ 20 := many_one hc1.out (List.mem_of_getElem? hy)
        have hBb : Below wr.heap.size wr (wr.alloc (.cells #[.int .i64 y.Do, .int .i64 y.m, .int .i64 y.c, .int .i64 y.a, .slice y.p y.len y.cap] 40)) := (Below.refl _ _).alloc (Nat.le_refl _) _
        have hbx := heap_alloc_new wr (.cells #[.int .i64 y.Do, .int .i64 y.m, .int .i64 y.c, .int .i64 y.a, .slice y.p y.len y.cap] 40)
        have hnm := hS.out.nm
        have hDo := fun wv (hb : Below wr.heap.size wr wv) => (dow_any y.told wv (hS.out.below hb).st (told_ok (hyok.kept hb)) (by rw [told_len]; omega) (by omega)).mono fun e w' hd => (hS.out.below hb).dow hd
        have hYn := opW_syn hS.out.siz hY.out y.told (told_do y)
        rw [hnm, told_arr] at hDo
        generalize opW l x y.told = R at *
        obtain ⟨r, l', x'⟩ := R
        dsimp only at hYn hDo
        replace hrow := Lib.hid hrow
        replace hyok := Lib.hid hyok
        replace hy := Lib.hid hy
        replace hYn := Lib.hid hYn
        generalize hv : wr.alloc (.cells #[.int .i64 y.Do, .int .i64 y.m, .int .i64 y.c, .int .i64 y.a, .slice y.p y.len y.cap] 40) = v at *
        have y0 : v.cell? ⟨wr.heap.size, 0, none⟩ = some (.int .i64 y.Do) := obj_cell hbx rfl
        have y1 : v.cell? ⟨wr.heap.size, 1, none⟩ = some (.int .i64 y.m) := obj_cell hbx rfl
        have y2 : v.cell? ⟨wr.heap.size, 2, none⟩ = some (.int .i64 y.c) := obj_cell hbx rfl
        have y3 : v.cell? ⟨wr.heap.size, 3, none⟩ = some (.int .i64 y.a) := obj_cell hbx rfl
        have y4 : v.cell? ⟨wr.heap.size, 4, none⟩ = some (.slice y.p y.len y.cap) := obj_cell hbx rfl
        have yz := obj_free hbx
        replace hv := Lib.hid hv
        by_cases d4 : y.Do = 4
        · have b4 : (y.Do == 4) = true := by simpa using d4
          rw [if_pos d4] at hDo
          have hb2 : Below wr.heap.size wr (v.setCell ⟨wr.heap.size, 0, none⟩ (.int .i64 0)) := hBb.setCell (Nat.le_refl _) _
          have hD := Lib.hid (hDo _ hb2)
          have hu := obj_set hbx 0 (.int .i64 0)
          clear hDo
          replace hb2 := Lib.hid hb2
          replace hBb := Lib.hid hBb
          replace hbx := Lib.hid hbx
          replace d4 := Lib.hid d4
          go_upto_region 13 with (fail)
          change Code.wp _ _ _ _ (wr.alloc (.cells #[.int .i64 y.Do, .int .i64 y.m, .int .i64 y.c, .int .i64 y.a, .slice y.p y.len y.cap] 40))
          rw [hv.out]
          go_upto_region 15 with (fail)
          clear y0 y1 y2 y3 y4 yz z0 z1 z2 z3 z4
          generalize hu1 : v.setCell ⟨wr.heap.size, 0, none⟩ (.int .i64 0) = u at *
          have y0 : u.cell? ⟨wr.heap.size, 0, none⟩ = some (.int .i64 0) := obj_cell hu rfl
          have y1 : u.cell? ⟨wr.heap.size, 1, none⟩ = some (.int .i64 y.m) := obj_cell hu rfl
          have y2 : u.cell? ⟨wr.heap.size, 2, none⟩ = some (.int .i64 y.c) := obj_cell hu rfl
          have y3 : u.cell? ⟨wr.heap.size, 3, none⟩ = some (.int .i64 y.a) := obj_cell hu rfl
          have y4 : u.cell? ⟨wr.heap.size, 4, none⟩ = some (.slice y.p y.len y.cap) := obj_cell hu rfl
          replace hu := Lib.hid hu
          replace hu1 := Lib.hid hu1
          go_wp2_with (first | (go_at_call 13; (with_reducible refine hD.out.mono ?_); rintro e w5 ⟨rfl, hK5⟩; replace hK5 := Lib.hid hK5))
          go_roundw
          case rel => exact ⟨k + 1, l', x', by omega, by go_num, hK5, hYn⟩
          case measure => simp [intOf]; omega
        · have b4 : (y.Do == 4) = false := by simpa using d4
          rw [if_neg d4] at hDo
          have hD := Lib.hid (hDo _ hBb)
          clear hDo
          replace hBb := Lib.hid hBb
          replace hbx := Lib.hid hbx
          replace d4 := Lib.hid d4
          go_upto_region 13 with (fail)
          change Code.wp _ _ _ _ (wr.alloc (.cells #[.int .i64 y.Do, .int .i64 y.m, .int .i64 y.c, .int .i64 y.a, .slice y.p y.len y.cap] 40))
          rw [hv.out]
          go_wp2_with (first | (go_at_call 13; (with_reducible refine hD.out.mono ?_); rintro e w5 ⟨rfl, hK5⟩; replace hK5 := Lib.hid hK5))
          go_roundw
          case rel => exact ⟨k + 1, l', x', by omega, by go_num, hK5, hYn⟩
          case measure => simp [intOf]; omega
      · obtain rfl : k = n := by omega
        have kz : ¬ (k : Int) < (k : Int) := by omega
        obtain ⟨P, hP⟩ := hS.out.st.wp
        have cT := table_any wr hP
        have hchk := hP.chk
        have hsz := hS.out.siz
        have hnm := hS.out.nm
        have hanew : ∀ i, i < x.nm → (WM.new x.cs l).net (i : Int) = x.net (i : Int) ∧ (WM.new x.cs l).short (i : Int) = x.short (i : Int) := fun i hi => anew_eq hsz hY.out hi
        replace cT := Lib.hid cT
        replace hchk := Lib.hid hchk
        replace hsz := Lib.hid hsz
        replace hanew := Lib.hid hanew
        replace hP := Lib.hid hP
        go_upto_region 18 with (first | (go_at_call 18; (with_reducible refine cT.out.mono ?_); rintro e w5 ⟨g, c5, rfl, hT5, _, _, hB5⟩; obtain ⟨Q5, hQ5⟩ := (hS.out.st.below hB5).pl; have cW5 := wnew_any (cap := c5) w5 hT5 hQ5 hS.out.st.good; replace cW5 := Lib.hid cW5; replace hT5 := Lib.hid hT5; replace hQ5 := Lib.hid hQ5; replace hB5 := Lib.hid hB5) | (go_at_call 10; (with_reducible refine cW5.out.mono ?_); rintro e w6 ⟨_, _, h6, hB6⟩; obtain ⟨b2, rfl, hW6⟩ := h6 hchk.out hsz.out.nc; clear h6; replace hB6 := Lib.hid hB6; replace hW6 := Lib.hid hW6))
        have hR0 : KR w2 lb b b2 x (WM.new x.cs l) w6 := ⟨⟨P, (hP.out.below hB5.out).below hB6.out⟩, ⟨_, hW6.out⟩, hS.out.blw.trans ((hB5.out.trans (hB6.out.mono hB5.out.size)).mono hS.out.blw.size)⟩
        generalize WM.new x.cs l = y at *
        replace hR0 := Lib.hid hR0
        go_upto_region 21 with (fail)
        go_loopw [16] (fun i wz => ∃ j : Nat, j ≤ M ∧ i = .int .i64 (j : Int) ∧ Hid (KR w2 lb b b2 x y wz)) (fun i _ => M - (intOf i).toNat)
        case atStart => exact ⟨0, by omega, rfl, hR0⟩
        case round =>
          obtain ⟨j, hj, rfl, hR⟩ := hrel
          by_cases hjm : j < M
          · have jz : (j : Int) < (M : Int) := by omega
            have hjx : j < x.nm := by omega
            obtain ⟨e1, e2⟩ := hanew.out j hjx
            have e3 := iff_nil hjx
            have cA1 := fun wv (h : KR w2 lb b b2 x y wv) => net_any (j : Int) wv h.one.choose_spec
            have cA2 := fun wv (h : KR w2 lb b b2 x y wv) => net_any (j : Int) wv h.two.choose_spec
            have cB1 := fun wv (h : KR w2 lb b b2 x y wv) => short_any (j : Int) wv h.one.choose_spec
            have cB2 := fun wv (h : KR w2 lb b b2 x y wv) => short_any (j : Int) wv h.two.choose_spec
            have cF := fun wv (h : KR w2 lb b b2 x y wv) => if_any (j : Int) none 0 0 [] wv h.one.choose_spec (prow_nil wv) (by omega)
            rw [e1] at cA2
            rw [e2] at cB2
            generalize x.net (j : Int) = NV at *
            generalize x.short (j : Int) = SV at *
            generalize x.iff (j : Int) [] = FV at *
            obtain ⟨n1, n2⟩ := NV
            obtain ⟨s1, s2⟩ := SV
            obtain ⟨f1, f2, f3⟩ := FV
            dsimp only at cA1 cA2 cB1 cB2 e3
            replace cA1 := Lib.hid cA1
            replace cA2 := Lib.hid cA2
            replace cB1 := Lib.hid cB1
            replace cB2 := Lib.hid cB2
            replace cF := Lib.hid cF
            clear e1 e2
            go_wp2_with fail
            with_reducible refine (cA1.out _ hR.out).mono ?_
            rintro e v1 ⟨rfl, hb1⟩
            have hR1 := Lib.hid (hR.out.below hb1)
            replace hb1 := Lib.hid hb1
            go_wp2_with fail
            with_reducible refine (cA2.out _ hR1.out).mono ?_
            rintro e v2 ⟨rfl, hb2⟩
            have hR2 := Lib.hid (hR1.out.below hb2)
            replace hb2 := Lib.hid hb2
            go_wp2_with fail
            with_reducible refine (cB1.out _ hR2.out).mono ?_
            rintro e v3 ⟨rfl, hb3⟩
            have hR3 := Lib.hid (hR2.out.below hb3)
            replace hb3 := Lib.hid hb3
            go_wp2_with fail
            with_reducible refine (cB2.out _ hR3.out).mono ?_
            rintro e v4 ⟨rfl, hb4⟩
            have hR4 := Lib.hid (hR3.out.below hb4)
            replace hb4 := Lib.hid hb4
            go_wp2_with fail
            with_reducible refine (cF.out _ hR4.out).mono ?_
            rintro e v5 ⟨rfl, hb5⟩
            have hR5 := Lib.hid (hR4.out.below hb5)
            replace hb5 := Lib.hid hb5
            by_cases hn2 : n2 = 0
            · subst hn2
              by_cases hs2 : s2 = 0
              · subst hs2
                have e4 := e3 rfl rfl
                injection e4 with e5 e6
                injection e6 with e7 e8
                subst e5; subst e7; subst e8
                clear e3
                go_wp2_with fail
                go_roundw
                case rel => exact ⟨j + 1, by omega, by go_num, hR5⟩
                case measure => simp [intOf]; omega
              · have hs3 : (s2 == 0) = false := by simpa using hs2
                clear e3
                go_wp2_with fail
                go_roundw
                case rel => exact ⟨j + 1, by omega, by go_num, hR5⟩
                case measure => simp [intOf]; omega
            · have hn3 : (n2 == 0) = false := by simpa using hn2
              clear e3
              go_wp2_with fail
              go_roundw
              case rel => exact ⟨j + 1, by omega, by go_num, hR5⟩
              case measure => simp [intOf]; omega
          · obtain rfl : j = M := by omega
            have jz : ¬ (j : Int) < (j : Int) := by omega
            go_wp2_with fail
            go_ret
            exact ⟨rfl, hB02.out.trans (hR.out.blw.mono hB02.out.size)⟩
  · obtain ⟨g, hg⟩ : ∃ g, chkT cs = g := ⟨_, rfl⟩
    rw [hg] at cC1 hc
    have hgz : (g != 0) = true := by simpa using hc
    replace cC1 := Lib.hid cC1
    replace hc := Lib.hid hc
    go_wp2_with (first | (go_at_call 7; (with_reducible refine cL.out.mono ?_); rintro e w2 ⟨rfl, rfl⟩) | (go_at_call 11; (with_reducible refine cC1.out.mono ?_); rintro e w2 ⟨rfl, hB2⟩; replace hB2 := Lib.hid hB2))
    go_ret
    exact ⟨rfl, chain_trans hB1.out hB2.out⟩
end Go.Proofs.Ytllhpdohahoelaa
