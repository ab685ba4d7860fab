/- The contract of spread: a net below 0, shared out over deadlines.
  The contract of Schedule. -/
import Derived.Test.YthocnlalahknjaaGreatQPdd
namespace Go.Proofs.YthocnlalahknjaaGreat.Dd
open Go.RowKit Go.Maps
set_option linter.unusedVariables false

/-- the due of one deadline, if it isn't 0 -/
def dueAt (m c : Int) (zs sh : List Int) (i : Nat) : Option Du := if 0 < sh.getD i 0 then some ⟨m, c, zs.getD i 0, sh.getD i 0⟩ else none
/-- the dues of the first deadlines -/
def duesUp (m c : Int) (zs sh : List Int) (k : Nat) : List Du := (List.range k).filterMap (dueAt m c zs sh)
theorem duesUp_yes {m c : Int} {zs sh : List Int} {k : Nat} (h : 0 < sh.getD k 0) : duesUp m c zs sh (k + 1) = duesUp m c zs sh k ++ [⟨m, c, zs.getD k 0, sh.getD k 0⟩] := by
  unfold duesUp; rw [List.range_succ, List.filterMap_append]; simp only [List.filterMap_cons, List.filterMap_nil, dueAt, if_pos h]
theorem duesUp_no {m c : Int} {zs sh : List Int} {k : Nat} (h : ¬ 0 < sh.getD k 0) : duesUp m c zs sh (k + 1) = duesUp m c zs sh k := by
  unfold duesUp; rw [List.range_succ, List.filterMap_append]; simp only [List.filterMap_cons, List.filterMap_nil, dueAt, if_neg h, List.append_nil]
theorem duesUp_le (m c : Int) (zs sh : List Int) (k : Nat) : (duesUp m c zs sh k).length ≤ k := by
  unfold duesUp; have := List.length_filterMap_le (dueAt m c zs sh) (List.range k); rwa [List.length_range] at this
/-- what a net below 0 is shared out to -/
def duesOf (m c x : Int) (zs : List Int) : List Du := duesUp m c zs (shares (-x) (List.replicate zs.length 1)) zs.length
theorem sum_ones : ∀ n : Nat, sumL (List.replicate n 1) = (n : Int)
  | 0 => rfl
  | n + 1 => by rw [List.replicate_succ]; show 1 + sumL (List.replicate n 1) = _; rw [sum_ones n]; omega
theorem chk_ones {T : Int} {n : Nat} (hT : 0 ≤ T) (hn : n ≤ 64) : chk T (List.replicate n 1) = 0 := by
  unfold chk
  rw [if_neg (by rw [List.length_replicate]; omega), if_neg (by omega), if_neg]
  rintro ⟨z, hz, h0⟩
  have := (List.mem_replicate.1 hz).2
  omega
theorem shE_ones {T : Int} {n : Nat} (hT : 0 ≤ T) (h1 : 1 ≤ n) (hn : n ≤ 64) : shE T (List.replicate n 1) = 0 := by
  unfold shE
  rw [if_neg (by rw [chk_ones hT hn]; decide), sum_ones, if_neg (by omega), if_neg (by omega)]

set_option maxHeartbeats 4000000 in
set_option maxRecDepth 100000 in
theorem spread_any (m c x : Int) (p : Option Addr) (n cap : Nat) (zs : List Int) (w : World) (hs : Seq64 w p n zs) (h1 : 1 ≤ n) (h16 : n ≤ 16) (hx : x < 0) (hx2 : -9223372036854775808 < x) :
    Calls Tryz.prog 34 #[.int .i64 m, .int .i64 c, .int .i64 x, .slice p n cap] w fun e w' => ∃ u, e = .returned (.tuple #[u, .int .i64 0]) ∧ UR w w' u (duesOf m c x zs) := by
  have hsz := size_any x w (by omega) (by omega)
  have habs : absI x = -x := by unfold absI; split <;> omega
  have hV : fitV (-x) = -x := by unfold fitV; rw [if_pos ⟨by omega, by omega⟩]
  have hE : fitE (-x) = 0 := by unfold fitE; rw [if_pos ⟨by omega, by omega⟩]
  rw [habs, hV, hE] at hsz
  have hev := even_any (-x) (n : Int) w ⟨by omega, by omega⟩ ⟨by omega, by omega⟩
  obtain ⟨hl, hz, hm, hcs⟩ := hs
  obtain ⟨b, off, rfl, hlt, hall⟩ := hcs.resolve_left (by omega)
  obtain ⟨sh, hsh⟩ : ∃ sh, sh = shares (-x) (List.replicate n 1) := ⟨_, rfl⟩
  have hshl : sh.length = n := by rw [hsh, shares_len, List.length_replicate]
  have hout : Hid (∀ w' e, EvOut (-x) (n : Int) w w' e → ∃ g, e = .returned (.tuple #[.slice (some ⟨g, 0, none⟩) n n, .int .i64 0]) ∧ w.heap.size ≤ g ∧ YthocnlalahknjaaGreat.IRow 2 w' g sh) := Lib.hid fun w' e h => by
    rcases h with ⟨h, _⟩ | ⟨h, _⟩ | ⟨k, hk, k1, k2, h⟩
    · omega
    · omega
    · obtain rfl : k = n := by omega
      rcases h with ⟨h, _⟩ | ⟨_, g, rfl, hg, hI⟩
      · exact absurd (shE_ones (by omega) k1 k2) h
      · exact ⟨g, by rw [List.length_replicate], hg, by rw [hsh]; exact hI⟩
  have hfin : duesOf m c x zs = duesUp m c zs sh n := by unfold duesOf; rw [hl, ← hsh]
  rw [hfin]
  have h0 : UR w w (.slice none 0 0) (duesUp m c zs sh 0) := ⟨World.ownsRow_nil _ _ _ _, (fun g hg => by simp [Value.ownBlock] at hg), Below.refl _ _⟩
  replace hsz := Lib.hid hsz
  replace hev := Lib.hid hev
  replace hall := Lib.hid hall
  replace h0 := Lib.hid h0
  replace hshl := Lib.hid hshl
  clear hz hcs hsh hfin habs hV hE
  go_enter Tryz.func34, Tryz.ntmps34
  go_wp2_with (first | (go_at_call 62; (with_reducible refine hsz.out.mono ?_); rintro e w1 ⟨rfl, rfl⟩) | (go_at_call 63; (with_reducible refine hev.out.mono ?_); rintro e w2 ⟨hb2, he⟩; obtain ⟨g, rfl, hg, hI⟩ := hout.out _ _ he; replace hb2 := Lib.hid hb2; replace hI := Lib.hid hI; replace hg := Lib.hid hg; clear he))
  have h02 : Hid (UR w2 w2 (.slice none 0 0) (duesUp m c zs sh 0)) := Lib.hid ⟨World.ownsRow_nil _ _ _ _, (fun g hg => by simp [Value.ownBlock] at hg), Below.refl _ _⟩
  go_loopw [14, 34] (fun u i wr => ∃ k : Nat, k ≤ n ∧ i = .int .i64 (k : Int) ∧ Hid (UR w2 wr u (duesUp m c zs sh k))) (fun _ i _ => n - (intOf i).toNat)
  case atStart => exact ⟨0, by omega, rfl, h02⟩
  case round =>
    obtain ⟨k, hk, rfl, hS⟩ := hrel
    by_cases hkn : k < n
    · have hbl := hS.out.bl
      have hbw : Below w.heap.size w wr := hb2.out.trans (hbl.mono hb2.out.size)
      have e0 := (hbl.cell (p := ⟨g, k, none⟩) hI.out.lt).trans (hI.out.cell (i := k) (by have := hshl.out; omega))
      have e1 := (hbw.cell (p := ⟨b, off + k, none⟩) hlt).trans (hall.out k hkn)
      have hle : Hid ((duesUp m c zs sh k).length ≤ 1000) := Lib.hid (by have := duesUp_le m c zs sh k; omega)
      have hyes : 0 < sh.getD k 0 → ∀ o, (wr.alloc o).ownsRow 0 39 4 u14 (duesUp m c zs sh k).length (cellsU (duesUp m c zs sh k)) ∧
          (∀ v' w', w'.ownsRow 0 39 4 v' ((duesUp m c zs sh k).length + 1) (cellsU (duesUp m c zs sh k) ++ (⟨m, c, zs.getD k 0, sh.getD k 0⟩ : Du).cs) → (wr.alloc o).grownBy w' u14.ownBlock → (∀ g', v'.ownBlock = some g' → u14.ownBlock = some g' ∨ wr.heap.size + 1 ≤ g') → UR w2 w' v' (duesUp m c zs sh (k + 1))) := fun hh o => by
        have r2 := orow_kept (w' := wr.alloc o) hS.out.row fun g' hg' => Below.heap_alloc _ _ _ (World.ownsRow.lt hS.out.row g' hg').2
        refine ⟨r2, fun v' w' h1 h2 h3 => ⟨?_, fun g' hg' => ?_, below_grown (hS.out.bl.alloc hS.out.bl.size o) h2 hS.out.own (Nat.le_refl _)⟩⟩
        · rw [duesUp_yes hh, cellsU_app, List.length_append]; exact h1
        · rcases h3 g' hg' with h4 | h4
          · exact hS.out.own g' h4
          · have := hS.out.bl.size; omega
      have hno : ¬ 0 < sh.getD k 0 → UR w2 wr u14 (duesUp m c zs sh (k + 1)) := fun hh => by rw [duesUp_no hh]; exact hS.out
      generalize zs.getD k 0 = t at *
      generalize sh.getD k 0 = a at *
      obtain ⟨X, hX⟩ : ∃ X : Du, X = ⟨m, c, t, a⟩ := ⟨_, rfl⟩
      have hnewC : ∀ (j : Nat) (u : Value), (⟨m, c, t, a⟩ : Du).cs[j]? = some u → (wr.alloc (.cells #[.int .i64 m, .int .i64 c, .int .i64 t, .int .i64 a] 39)).cell? ((⟨wr.heap.size, 0, none⟩ : Addr).add j) = some u := boxU ⟨m, c, t, a⟩ (heap_alloc_new wr _)
      have h1c := (⟨m, c, t, a⟩ : Du).cs_one
      replace hnewC := Lib.hid hnewC
      replace h1c := Lib.hid h1c
      replace hbl := Lib.hid hbl
      replace hbw := Lib.hid hbw
      by_cases hst : 0 < a
      · have hyes := Lib.hid (hyes hst)
        clear hno
        go_wp2_with (at_builtin; refine wpList_app1 36 39 4 32 _ Tryz.underlying36 info39 (by rfl) (by omega) (by omega) rfl _ _ rfl rfl _ _ _ rfl (hyes.out _).1 ⟨wr.heap.size, 0, none⟩ (⟨m, c, t, a⟩ : Du).cs rfl rfl hnewC.out h1c.out (by have := hle.out; omega) ?_)
        intro v' w' hr' hg' hv'
        go_wp2_with fail
        go_roundw
        case rel => exact ⟨k + 1, by omega, by go_num, Lib.hid ((hyes.out _).2 _ _ hr' hg' hv')⟩
        case measure => simp [intOf]; omega
      · have hno := Lib.hid (hno hst)
        clear hyes
        go_wp2_with fail
        go_roundw
        case rel => exact ⟨k + 1, by omega, by go_num, hno⟩
        case measure => simp [intOf]; omega
    · obtain rfl : k = n := by omega
      have hkz : ¬ (k : Int) < (k : Int) := by omega
      go_wp2_with fail
      go_ret2
      exact ⟨_, rfl, hS.out.base hb2.out⟩
end Go.Proofs.YthocnlalahknjaaGreat.Dd
namespace Go.Proofs.YthocnlalahknjaaGreat.Dd
open Go.RowKit Go.Maps
set_option linter.unusedVariables false

theorem wpList_appR {ops : Array Oper} {rest : List Oper} {o : Oper} {a : Act} {w : World} {Q : Exit → Act → World → Prop} (hgd : o.guard = none) (sl x : Operand) (hty : o.type = 36)
    (ho : o.op = .call { callee := .builtin .append, args := #[sl, x], argTypes := #[36, 36] })
    (v y v' : Value) (w' : World) (hs : a.eval sl = v) (hx : a.eval x = y) (hr : (Builtin.append_ #[36, 36] 36 #[v, y]).run Tryz.prog w = .ok v' w')
    (h : wpList Tryz.prog ops Q rest (a.put o.dst v') w') : wpList Tryz.prog ops Q (o :: rest) a w := by
  refine wpList_plain hgd fun K hK => ?_
  unfold Oper.wp execOp
  simp only [ho, hty, resolve, invoke, builtin, Sem.run_bind, Sem.run_pure, Result.andThen_ok, List.map_toArray, List.map_cons, List.map_nil, hs, hx, hr]
  exact hK _ _ h
set_option maxHeartbeats 1000000 in
set_option maxRecDepth 100000 in
theorem spread_over (m c : Int) (p : Option Addr) (n cap : Nat) (w : World) : Calls Tryz.prog 34 #[.int .i64 m, .int .i64 c, .int .i64 (-9223372036854775808), .slice p n cap] w fun e w' => e = .returned (.tuple #[.slice none 0 0, .int .i64 3]) ∧ Below w.heap.size w w' := by
  have hsz := size_any (-9223372036854775808) w (by omega) (by omega)
  have e1 : fitV (absI (-9223372036854775808)) = 0 := by decide
  have e2 : fitE (absI (-9223372036854775808)) = 3 := by decide
  rw [e1, e2] at hsz
  go_enter Tryz.func34, Tryz.ntmps34
  go_wp2_with (first | (go_at_call 62; (with_reducible refine hsz.mono ?_); rintro e w1 ⟨rfl, rfl⟩))
  go_ret2
  exact ⟨rfl, Below.refl _ _⟩

/-- a member's dues of its first currencies -/
def rowD (zs : List Int) (m : Nat) (row : List Int) (k : Nat) : List Du := (List.range k).flatMap fun c => if row.getD c 0 < 0 then duesOf m c (row.getD c 0) zs else []
/-- the first members' dues -/
def allD (zs : List Int) (rows : List (List Int)) (k : Nat) : List Du := (List.range k).flatMap fun m => rowD zs m (rows.getD m []) (rows.getD m []).length
theorem rowD_succ (zs : List Int) (m : Nat) (row : List Int) (k : Nat) : rowD zs m row (k + 1) = rowD zs m row k ++ if row.getD k 0 < 0 then duesOf m k (row.getD k 0) zs else [] := by
  unfold rowD; rw [List.range_succ, List.flatMap_append]; simp
theorem allD_succ (zs : List Int) (rows : List (List Int)) (k : Nat) : allD zs rows (k + 1) = allD zs rows k ++ rowD zs k (rows.getD k []) (rows.getD k []).length := by
  unfold allD; rw [List.range_succ, List.flatMap_append]; simp
theorem duesOf_le (m c x : Int) (zs : List Int) : (duesOf m c x zs).length ≤ zs.length := duesUp_le _ _ _ _ _
theorem rowD_le (zs : List Int) (m : Nat) (row : List Int) : ∀ k, (rowD zs m row k).length ≤ k * zs.length
  | 0 => by simp [rowD]
  | k + 1 => by
    rw [rowD_succ, List.length_append, Nat.add_mul]
    have h1 := rowD_le zs m row k
    split
    · have := duesOf_le m k (row.getD k 0) zs; omega
    · simp; omega
theorem allD_le (zs : List Int) (rows : List (List Int)) (h : ∀ r ∈ rows, r.length ≤ 8) (h16 : zs.length ≤ 16) : ∀ k, (allD zs rows k).length ≤ k * 128
  | 0 => by simp [allD]
  | k + 1 => by
    rw [allD_succ, List.length_append, Nat.add_mul]
    have h1 := allD_le zs rows h h16 k
    have h2 := rowD_le zs k (rows.getD k []) (rows.getD k []).length
    have h3 : (rows.getD k []).length ≤ 8 := by
      rw [List.getD_eq_getElem?_getD]
      cases hk : rows[k]? with
      | none => simp
      | some r => exact h r (List.mem_of_getElem? hk)
    have h4 := Nat.mul_le_mul h3 h16
    omega
theorem duesOf_ne {m c x : Int} {zs : List Int} (h1 : 1 ≤ zs.length) (hx : x < 0) : duesOf m c x zs ≠ [] := by
  intro h0
  have hs := sum_shares (-x) (List.replicate zs.length 1) (by rw [sum_ones]; omega)
  have hall : ∀ i, i < zs.length → (shares (-x) (List.replicate zs.length 1)).getD i 0 ≤ 0 := fun i hi => by
    apply Classical.byContradiction
    intro hc
    unfold duesOf duesUp at h0
    rw [List.filterMap_eq_nil_iff] at h0
    have := h0 i (List.mem_range.2 hi)
    unfold dueAt at this
    rw [if_pos (by omega)] at this
    cases this
  have hle : ∀ l : List Int, (∀ i, i < l.length → l.getD i 0 ≤ 0) → sumL l ≤ 0 := by
    intro l
    induction l with
    | nil => intro _; exact Int.le_refl _
    | cons a r ih =>
      intro h
      have h2 := h 0 (by simp)
      have h3 := ih fun i hi => by have := h (i + 1) (by simpa using hi); simpa using this
      show a + sumL r ≤ 0
      have : a ≤ 0 := by simpa using h2
      omega
  have := hle (shares (-x) (List.replicate zs.length 1)) (fun i hi => hall i (by rwa [shares_len, List.length_replicate] at hi))
  omega
/-- is there a net that can't be turned? -/
def overN (rows : List (List Int)) : Bool := rows.any fun r => r.any fun x => decide (x = -9223372036854775808)
/-- what Schedule hands back -/
def SchOut (rows : List (List Int)) (zs : List Int) (w w' : World) (e : Ending) : Prop :=
  (mayD zs = false ∧ e = .returned (.tuple #[.slice none 0 0, .int .i64 1])) ∨
  (mayD zs = true ∧ manyN rows = true ∧ e = .returned (.tuple #[.slice none 0 0, .int .i64 4])) ∨
  (mayD zs = true ∧ manyN rows = false ∧ overN rows = true ∧ e = .returned (.tuple #[.slice none 0 0, .int .i64 3])) ∨
  (mayD zs = true ∧ manyN rows = false ∧ overN rows = false ∧ ∃ u L, e = .returned (.tuple #[u, .int .i64 0]) ∧ L.Perm (allD zs rows rows.length) ∧ InOrder byTk L ∧ USeq w' u L)

set_option maxHeartbeats 4000000 in
set_option maxRecDepth 100000 in
theorem schedule_main (v : Value) (rows : List (List Int)) (p : Option Addr) (n cap : Nat) (zs : List Int) (w : World) (h : NSeq w v rows) (hs : Seq64 w p n zs) (hD : mayD zs = true) (hM : manyN rows = false) :
    Calls Tryz.prog 13 #[v, .slice p n cap] w fun e w' => Below w.heap.size w w' ∧
      ((overN rows = true ∧ e = .returned (.tuple #[.slice none 0 0, .int .i64 3])) ∨ (overN rows = false ∧ ∃ u L, e = .returned (.tuple #[u, .int .i64 0]) ∧ L.Perm (allD zs rows rows.length) ∧ InOrder byTk L ∧ USeq w' u L)) := by
  have hD2 := hD
  unfold mayD at hD2
  simp only [Bool.and_eq_true, decide_eq_true_eq] at hD2
  obtain ⟨⟨n1, n16⟩, -⟩ := hD2
  have hM2 := hM
  unfold manyN at hM2
  simp only [Bool.or_eq_false_iff, decide_eq_false_iff_not] at hM2
  obtain ⟨r16, r8⟩ := hM2
  have hrow8 : ∀ r ∈ rows, r.length ≤ 8 := fun r hr => by
    have := List.any_eq_false.1 r8 r hr
    simpa using this
  have hmb := mayBeD_any p n cap zs w hs
  have htm := tooMany_any v rows w h (by omega) (fun r hr => by have := hrow8 r hr; omega)
  rw [hD] at hmb
  rw [hM] at htm
  have hspr := fun (m c x : Int) W (hb : Below w.heap.size w W) (hx : x < 0) (hx2 : -9223372036854775808 < x) => spread_any m c x p n cap zs W (hs.kept hb) (by have := hs.1; omega) (by have := hs.1; omega) hx hx2
  obtain ⟨a, cp, hv, hrd⟩ := id h
  subst hv
  obtain ⟨N, hN⟩ : ∃ N, N = rows.length := ⟨_, rfl⟩
  rw [← hN] at htm ⊢
  have hN16 : N ≤ 16 := by omega
  have h0 : UR w w (.slice none 0 0) (allD zs rows 0) := ⟨World.ownsRow_nil _ _ _ _, (fun g hg => by simp [Value.ownBlock] at hg), Below.refl _ _⟩
  have hzl := hs.1
  replace hmb := Lib.hid hmb
  replace htm := Lib.hid htm
  replace hspr := Lib.hid hspr
  replace hrow8 := Lib.hid hrow8
  replace hrd := Lib.hid hrd
  replace h0 := Lib.hid h0
  replace hN := Lib.hid hN
  replace hzl := Lib.hid hzl
  replace n1 := Lib.hid n1
  replace n16 := Lib.hid n16
  clear h hs r8 r16 hD hM
  go_enter Tryz.func13, Tryz.ntmps13
  go_wp2_with (first | (go_at_call 32; (with_reducible refine hmb.out.mono ?_); rintro e w1 ⟨rfl, hw1⟩; replace hw1 := hw1.symm; subst hw1) | (go_at_call 33; (with_reducible refine htm.out.mono ?_); rintro e w1 ⟨rfl, q, rfl⟩))
  have h01 : Hid (UR w (w.drewN q) (.slice none 0 0) (allD zs rows 0) ∧ ∀ j, j < 0 → ∀ x ∈ rows.getD j [], x ≠ -9223372036854775808) := Lib.hid ⟨⟨orow_kept h0.out.row fun _ _ => rfl, h0.out.own, below_drawn w q⟩, fun j hj => by omega⟩
  go_loopw [6, 20] (fun u i wr => ∃ k : Nat, k ≤ N ∧ i = .int .i64 (k : Int) ∧ Hid (UR w wr u (allD zs rows k) ∧ ∀ j, j < k → ∀ x ∈ rows.getD j [], x ≠ -9223372036854775808)) (fun _ i _ => N - (intOf i).toNat)
  case atStart => exact ⟨0, by omega, rfl, h01⟩
  case round =>
    obtain ⟨k, hk, rfl, hT⟩ := hrel
    by_cases hkn : k < N
    · have hkl : k < rows.length := by have := hN.out; omega
      obtain ⟨b, off, rfl, hlt, hall⟩ := hrd.out.resolve_left (by rintro rfl; simp at hkl)
      obtain ⟨p2, c2, hc, hs2⟩ := hall k hkl
      have hgd : rows.getD k [] = rows[k] := by rw [List.getD_eq_getElem?_getD, List.getElem?_eq_getElem hkl]; rfl
      have hin : rows[k] ∈ rows := List.getElem_mem hkl
      have h8 := hrow8.out rows[k] hin
      generalize rows[k] = row at *
      obtain ⟨m, hm⟩ : ∃ m, m = row.length := ⟨_, rfl⟩
      rw [← hm] at hc hs2 h8
      have hbl := hT.out.1.bl
      have hc' := (hbl.cell (p := ⟨b, off + k, none⟩) hlt).trans hc
      have hblt : b < wr.heap.size := Nat.lt_of_lt_of_le hlt hbl.size
      have hstart : Hid (UR w wr u6 (allD zs rows k ++ rowD zs k row 0) ∧ ∀ j, j < 0 → row.getD j 0 ≠ -9223372036854775808) := Lib.hid ⟨by show UR w wr u6 (allD zs rows k ++ []); rw [List.append_nil]; exact hT.out.1, fun j hj => by omega⟩
      obtain ⟨-, hamt, -, hcs⟩ := hs2
      replace hamt := Lib.hid hamt
      replace hcs := Lib.hid hcs
      replace hgd := Lib.hid hgd
      replace hm := Lib.hid hm
      replace hin := Lib.hid hin
      replace hbl := Lib.hid hbl
      clear hall hc
      obtain ⟨W0, hW0⟩ : ∃ W0, W0 = wr := ⟨_, rfl⟩
      clear hW0
      go_wp2_with fail
      go_loopw [6, 27] (fun u i wr => ∃ j : Nat, j ≤ m ∧ i = .int .i64 (j : Int) ∧ Hid (UR w wr u (allD zs rows k ++ rowD zs k row j) ∧ ∀ i, i < j → row.getD i 0 ≠ -9223372036854775808)) (fun _ i _ => m - (intOf i).toNat)
      case atStart => exact ⟨0, by omega, rfl, hstart⟩
      case round =>
        obtain ⟨j, hj, rfl, hS⟩ := hrel
        by_cases hjm : j < m
        · obtain ⟨b2, off2, rfl, hlt2, hall2⟩ := hcs.out.resolve_left (by omega)
          have hbw := hS.out.1.bl
          have hx0 := hall2 j hjm
          have hxa := hamt.out j
          have hb2l : b2 < wr.heap.size := Nat.lt_of_lt_of_le hlt2 hbw.size
          have e0 : wr.cell? ⟨b2, off2 + j, none⟩ = some (.int .i64 (row.getD j 0)) := (hbw.cell (p := ⟨b2, off2 + j, none⟩) hlt2).trans hx0
          have hsucc := rowD_succ zs k row j
          have hgj : row.getD j 0 ∈ row := by
            rw [List.getD_eq_getElem?_getD, List.getElem?_eq_getElem (by have := hm.out; omega)]; exact List.getElem_mem _
          have hall3 : row.getD j 0 ≠ -9223372036854775808 → ∀ i, i < j + 1 → row.getD i 0 ≠ -9223372036854775808 := fun hne i hi => by
            by_cases hij : i = j
            · subst hij; exact hne
            · exact hS.out.2 i (by omega)
          have hlen1 := allD_le zs rows hrow8.out n16.out k
          have hlen2 := rowD_le zs k row j
          have hlen3 : j * zs.length ≤ 8 * 16 := Nat.mul_le_mul (by omega) n16.out
          generalize hxv : row.getD j 0 = x at *
          replace hgj := Lib.hid hgj
          replace hsucc := Lib.hid hsucc
          replace hall3 := Lib.hid hall3
          replace hbw := Lib.hid hbw
          replace hlen2 := Lib.hid hlen2
          replace hlen1 := Lib.hid hlen1
          replace hlen3 := Lib.hid hlen3
          replace hxv := Lib.hid hxv
          clear hx0 hall2
          by_cases hxn : x < 0
          · have q1 : ¬ (0 : Int) ≤ x := by omega
            by_cases hxo : x = -9223372036854775808
            · have hov : overN rows = true := by
                unfold overN
                rw [List.any_eq_true]
                refine ⟨row, hin.out, ?_⟩
                rw [List.any_eq_true]
                exact ⟨x, hgj.out, by simp [hxo]⟩
              have hsp := fun W => spread_over (k : Int) (j : Int) p n cap W
              rw [← hxo] at hsp
              replace hsp := Lib.hid hsp
              replace hov := Lib.hid hov
              replace hxo := Lib.hid hxo
              go_wp2_with (go_at_call 34; (with_reducible refine (hsp.out _).mono ?_); rintro e w5 ⟨rfl, hb5⟩; replace hb5 := Lib.hid hb5)
              go_ret2
              exact ⟨hbw.out.trans (hb5.out.mono hbw.out.size), .inl ⟨hov.out, rfl⟩⟩
            · have hxa0 := hxa.1
              have hsp := fun W hb => hspr.out (k : Int) (j : Int) x W hb hxn (by omega)
              have hne := duesOf_ne (m := (k : Int)) (c := (j : Int)) n1.out hxn
              have hdl := duesOf_le (k : Int) (j : Int) x zs
              replace hsp := Lib.hid hsp
              replace hne := Lib.hid hne
              replace hdl := Lib.hid hdl
              have hrow2 : allD zs rows k ++ rowD zs k row (j + 1) = (allD zs rows k ++ rowD zs k row j) ++ duesOf (k : Int) (j : Int) x zs := by
                rw [hsucc.out, if_pos hxn, List.append_assoc]
              replace hrow2 := Lib.hid hrow2
              have hall4 := Lib.hid (hall3.out hxo)
              replace hxo := Lib.hid hxo
              go_upto_region 16 with (go_at_call 34; (with_reducible refine (hsp.out _ hbw.out).mono ?_); rintro e w5 ⟨u5, rfl, hU⟩; replace hU := Lib.hid hU)
              have hap := (hS.out.1.below hU.out.bl).appN hU.out.seq hne.out (by rw [List.length_append]; have := hlen1.out; have := hlen2.out; have := hlen3.out; have := hdl.out; have := n16.out; omega)
              obtain ⟨v7, w7, hr7, hR7⟩ := hap
              replace hr7 := Lib.hid hr7
              replace hR7 := Lib.hid hR7
              go_wp2_with (at_builtin; refine wpList_appR rfl _ _ rfl rfl _ _ _ _ rfl rfl hr7.out ?_)
              go_roundw
              case rel => exact ⟨j + 1, by omega, by go_num, Lib.hid ⟨by rw [hrow2.out]; exact hR7.out, hall4.out⟩⟩
              case measure => simp [intOf]; omega
          · have q1 : (0 : Int) ≤ x := by omega
            have hrow2 : allD zs rows k ++ rowD zs k row (j + 1) = allD zs rows k ++ rowD zs k row j := by
              rw [hsucc.out, if_neg hxn, List.append_nil]
            have hall4 := Lib.hid (hall3.out (by omega))
            replace hrow2 := Lib.hid hrow2
            go_wp2_with fail
            go_roundw
            case rel => exact ⟨j + 1, by omega, by go_num, Lib.hid ⟨by rw [hrow2.out]; exact hS.out.1, hall4.out⟩⟩
            case measure => simp [intOf]; omega
        · obtain rfl : j = m := by omega
          have hjz : ¬ (j : Int) < (j : Int) := by omega
          have hU2 : UR w wr u6 (allD zs rows (k + 1)) := by rw [allD_succ, hgd.out, ← hm.out]; exact hS.out.1
          have hno : ∀ i, i < k + 1 → ∀ x ∈ rows.getD i [], x ≠ -9223372036854775808 := fun i hi x hx => by
            by_cases hik : i = k
            · subst hik
              rw [hgd.out] at hx
              obtain ⟨t, ht, rfl⟩ := List.mem_iff_getElem.1 hx
              have := hS.out.2 t (by have := hm.out; omega)
              rwa [List.getD_eq_getElem?_getD, List.getElem?_eq_getElem ht] at this
            · exact hT.out.2 i (by omega) x hx
          replace hU2 := Lib.hid hU2
          replace hno := Lib.hid hno
          clear hS
          go_wp2_with fail
          go_roundw
          case rel => exact ⟨k + 1, by omega, by go_num, Lib.hid ⟨hU2.out, hno.out⟩⟩
          case measure => simp [intOf]; omega
    · obtain rfl : k = N := by omega
      have hkz : ¬ (k : Int) < (k : Int) := by omega
      have hov : overN rows = false := by
        unfold overN
        rw [List.any_eq_false]
        intro r hr
        rw [Bool.not_eq_true, List.any_eq_false]
        intro x hx
        obtain ⟨i, hi, rfl⟩ := List.mem_iff_getElem.1 hr
        have := hT.out.2 i (by have := hN.out; omega) x (by rw [List.getD_eq_getElem?_getD, List.getElem?_eq_getElem hi]; exact hx)
        simpa using this
      have hle := allD_le zs rows hrow8.out n16.out k
      have hso := sortUR 36 byTk (fun x y W => byTick_any x y W) swoTk eg36 w wr u6 _ hT.out.1 (by omega)
      replace hso := Lib.hid hso
      replace hov := Lib.hid hov
      clear hT hle
      go_wp2_with (go_at_call 35; (with_reducible refine hso.out.mono ?_); rintro e w9 ⟨rfl, L, h1, h2, h3, h4⟩; replace h1 := Lib.hid h1; replace h2 := Lib.hid h2; replace h3 := Lib.hid h3; replace h4 := Lib.hid h4)
      go_ret2
      exact ⟨h4.out, .inr ⟨hov.out, _, L, rfl, h1.out, h2.out, h3.out⟩⟩
end Go.Proofs.YthocnlalahknjaaGreat.Dd
