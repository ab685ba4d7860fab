/- Dues of a call's own, the library's sort of them, and the contract of upTo.
  The contract of upTo: the dues up to a tick, put in order.
  Rows of rows that are read; the contract of payments. -/
import Derived.Test.YthocnlalahknjaaGreatQPaa
import Derived.Test.YthocnlalahknjaaGreatQDc
import Derived.Test.YthocnlalahknjaaGreatShelfS
namespace Go.Proofs.YthocnlalahknjaaGreat.Dd
open Go.RowKit Go.Maps Go.Sort
set_option linter.unusedVariables false

theorem info39 : (Tryz.prog.info? 39).map (fun i => (i.zero, i.size, i.bytes)) = some (some (.agg #[.int .i64 0, .int .i64 0, .int .i64 0, .int .i64 0]), 4, 32) := by kernel_rfl
/-- a row of dues, new since w -/
structure UR (w wr : World) (u : Value) (l : List Du) : Prop where
  row : wr.ownsRow 0 39 4 u l.length (cellsU l)
  own : ∀ g, u.ownBlock = some g → w.heap.size ≤ g
  bl : Below w.heap.size w wr
theorem UR.seq {w wr : World} {u : Value} {l : List Du} (h : UR w wr u l) : USeq wr u l := by
  obtain ⟨p, cap, rfl, hc, -, hp⟩ := orow_shape h.row
  refine ⟨p, cap, rfl, hc, ?_⟩
  cases l with
  | nil => exact .inl rfl
  | cons d r =>
    obtain ⟨g, c1, cur, e1, _⟩ := orow_some h.row (by simp)
    injection e1 with e1 _ _
    subst e1
    refine .inr ⟨g, 0, rfl, (World.ownsRow.lt h.row g rfl).2, fun i hi j u hu => ?_⟩
    rw [Nat.zero_add]
    have hj : j < 4 := by
      have := (List.getElem?_eq_some_iff.1 hu).1
      rwa [Du.cs_len] at this
    exact orow_cell h.row rfl ((cellsU_at hi j hj).trans hu)
/-- dues' cells from a block's head on -/
def UCells (w : World) (g : Nat) (l : List Du) : Prop := ∀ i (h : i < l.length) j u, l[i].cs[j]? = some u → w.cell? ⟨g, i * 4 + j, none⟩ = some u
theorem ucs_get (x : Du) (j : Nat) (hj : j < 4) : x.cs[j]? = some x.cs[j]! := by
  rw [List.getElem?_eq_getElem (by rw [Du.cs_len]; exact hj), getElem!_pos x.cs j (by rw [Du.cs_len]; exact hj)]
theorem urow_holds {w : World} {g cap : Nat} {l : List Du} (h : w.ownsRow 0 39 4 (.slice (some ⟨g, 0, none⟩) l.length cap) l.length (cellsU l)) : HoldsK Du.cs 4 w g 0 l.toArray := by
  intro j hj
  rw [size_flatK] at hj
  have hj' : j < l.length * 4 := by simpa using hj
  have hi : j / 4 < l.length := by omega
  refine ⟨?_, orow_free h rfl _⟩
  have e1 : l.toArray[j / 4]! = l[j / 4] := by rw [getElem!_pos l.toArray (j / 4) (by simpa using hi)]; simp
  rw [get_flatK _ _ _ _ hj, e1, Nat.zero_add]
  have := orow_cell h (g := g) (j := j / 4 * 4 + j % 4) rfl ((cellsU_at hi (j % 4) (by omega)).trans (ucs_get l[j / 4] (j % 4) (by omega)))
  rw [show j / 4 * 4 + j % 4 = j by omega] at this
  exact this
theorem holds_ucells {w : World} {g : Nat} {d : Array Du} (h : HoldsK Du.cs 4 w g 0 d) : UCells w g d.toList := by
  intro i hi j u hu
  have hi' : i < d.size := by simpa using hi
  have hj : j < 4 := by
    have := (List.getElem?_eq_some_iff.1 hu).1
    rwa [Du.cs_len] at this
  have ht : i * 4 + j < d.size * 4 := by omega
  have := (h (i * 4 + j) (by rw [size_flatK]; exact ht)).1
  rw [get_flatK _ _ _ _ ht, Nat.zero_add, show (i * 4 + j) / 4 = i by omega, show (i * 4 + j) % 4 = j by omega, getElem!_pos d i hi'] at this
  rw [this]
  have e : d.toList[i] = d[i] := by simp
  rw [e, ucs_get _ _ hj] at hu
  exact hu
theorem UCells.seq {w : World} {g cap : Nat} {l : List Du} (h : UCells w g l) (hg : g < w.heap.size) (hc : l.length ≤ cap) : USeq w (.slice (some ⟨g, 0, none⟩) l.length cap) l :=
  ⟨_, cap, rfl, hc, .inr ⟨g, 0, rfl, hg, fun i hi j u hu => by rw [Nat.zero_add]; exact h i hi j u hu⟩⟩
theorem below_sortU (W : World) (B g off N : Nat) (d : Array Du) (os : Array Obj) (hg : B ≤ g) (hB : B ≤ W.heap.size) : Below B W (sortWorldK Du.cs 4 W g off N d os) := by
  refine ⟨rfl, rfl, rfl, ?_, fun k hk => ?_⟩
  · simp [sortWorldK, Sort.grow, putRowK, Sort.putRow, Sort.mapBlock, Sort.ahead]
  · show ((putRowK Du.cs 4 (Sort.ahead W N) g off d).heap ++ os)[k]? = W.heap[k]?
    rw [Array.getElem?_append_left (by simp [putRowK, Sort.putRow, Sort.mapBlock, Sort.ahead]; omega)]
    simp only [putRowK, Sort.putRow, Sort.mapBlock, Sort.ahead, Array.getElem?_modify]
    rw [if_neg (by omega)]
theorem cmp_neg {x y : Int} : Lib.compareInt x y < 0 ↔ x < y := by unfold Lib.compareInt; split <;> (try split) <;> omega
theorem byAcc_neg {d e : Du} : byAcc d e < 0 ↔ d.m < e.m ∨ (d.m = e.m ∧ d.c < e.c) := by
  unfold byAcc orOf
  by_cases h : Lib.compareInt d.m e.m = 0
  · rw [if_pos h, cmp_neg]; rw [cmp_zero] at h; omega
  · rw [if_neg h, cmp_neg]; rw [cmp_zero] at h; omega
theorem byAcc_zero {d e : Du} : byAcc d e = 0 ↔ d.m = e.m ∧ d.c = e.c := by unfold byAcc; rw [orOf_zero, cmp_zero, cmp_zero]
theorem byTk_neg {d e : Du} : byTk d e < 0 ↔ d.t < e.t ∨ (d.t = e.t ∧ byAcc d e < 0) := by
  unfold byTk
  generalize byAcc d e = y
  unfold orOf
  by_cases h : Lib.compareInt d.t e.t = 0
  · rw [if_pos h]; rw [cmp_zero] at h; omega
  · rw [if_neg h, cmp_neg]; rw [cmp_zero] at h; omega
theorem ltAcc (x y : Du) : ltOf byAcc x y = true ↔ x.m < y.m ∨ (x.m = y.m ∧ x.c < y.c) := by unfold ltOf; rw [decide_eq_true_iff, byAcc_neg]
theorem ltTk (x y : Du) : ltOf byTk x y = true ↔ x.t < y.t ∨ (x.t = y.t ∧ (x.m < y.m ∨ (x.m = y.m ∧ x.c < y.c))) := by unfold ltOf; rw [decide_eq_true_iff, byTk_neg, byAcc_neg]
theorem swoAcc : SWO (ltOf byAcc) where
  irrefl x := by rw [← Bool.not_eq_true, ltAcc]; omega
  trans x y z h1 h2 := by rw [ltAcc] at *; omega
  ntrans x y z h1 h2 := by rw [← Bool.not_eq_true, ltAcc] at *; omega
theorem swoTk : SWO (ltOf byTk) where
  irrefl x := by rw [← Bool.not_eq_true, ltTk]; omega
  trans x y z h1 h2 := by rw [ltTk] at *; omega
  ntrans x y z h1 h2 := by rw [← Bool.not_eq_true, ltTk] at *; omega

/-- dues in an order -/
def InOrder (f : Du → Du → Int) (L : List Du) : Prop := L.Pairwise fun a b => ¬ f b a < 0
theorem sorted_list {f : Du → Du → Int} {l : List Du} {d : Array Du} (hp : PermIn 0 l.toArray.size l.toArray d) (hs : SortedIn (ltOf f) 0 l.toArray.size d) : d.toList.Perm l ∧ InOrder f d.toList := by
  obtain ⟨hsz, _, hperm⟩ := hp
  have hsz' : d.size = l.length := by simpa using hsz
  have e1 : d.extract 0 l.toArray.size = d := by
    have := Array.extract_size (xs := d); rwa [hsz] at this
  have e2 : l.toArray.extract 0 l.toArray.size = l.toArray := Array.extract_size
  rw [e1, e2] at hperm
  refine ⟨by simpa using hperm, ?_⟩
  unfold InOrder
  rw [List.pairwise_iff_getElem]
  intro i j hi hj hij
  have hi' : i < d.size := by simpa using hi
  have hj' : j < d.size := by simpa using hj
  have h := hs i j (Nat.zero_le _) hij (by simpa using (by omega : j < l.length))
  rw [getElem!_pos d i hi', getElem!_pos d j hj'] at h
  unfold ltOf at h
  simpa using h
theorem sortU_any (fn : Nat) (f : Du → Du → Int) (hf : ∀ x y W, Calls Tryz.prog fn #[.agg x.cs.toArray, .agg y.cs.toArray] W fun e w' => e = .returned (.int .i64 (f x y)) ∧ ∃ q os', w' = grow (W.drewN q) os') (hswo : SWO (ltOf f))
    (eg : ∀ args w, (callFunc fn args).run Tryz.prog w = .ok (.enter fn args) w) (w : World) (g cap : Nat) (l : List Du) (h : w.ownsRow 0 39 4 (.slice (some ⟨g, 0, none⟩) l.length cap) l.length (cellsU l)) (B : Nat) (hg : B ≤ g) (hB : B ≤ w.heap.size) (hlen : l.length ≤ 1000000) :
    Calls Tryz.prog 35 #[.slice (some ⟨g, 0, none⟩) l.length cap, .func (.func fn) #[] #[]] w fun e w' => e = .returned (.tuple #[]) ∧ ∃ L : List Du, L.Perm l ∧ InOrder f L ∧ USeq w' (.slice (some ⟨g, 0, none⟩) l.length cap) L ∧ Below B w w' := by
  have hgl := (World.ownsRow.lt h g rfl).2
  obtain ⟨_, _, h3, hcap, -⟩ := orow_shape h
  injection h3 with _ _ h3
  have hcon := AnyQ.slices_SortFunc Tryz.laysF35 4 Tryz.isAgg39 Tryz.sizeOf39 Du.cs Du.cs_len (fun x v hv => Du.cs_one x v hv) f hswo fn #[] g 0 cap l.toArray w eg (fun _ _ _ _ x y => hf x y _) (urow_holds h) hgl (by simp; omega)
  have hsz : l.toArray.size = l.length := by simp
  rw [hsz] at hcon
  refine Calls.mono hcon ?_
  rintro e w' ⟨he, d', n, os, hp, hs, rfl⟩
  obtain ⟨h1, h2⟩ := sorted_list (by rw [hsz]; exact hp) (by rw [hsz]; exact hs)
  have hlL : d'.toList.length = l.length := h1.length_eq
  refine ⟨he, d'.toList, h1, h2, ?_, below_sortU _ _ _ _ _ _ _ hg hB⟩
  rw [← hlL]
  exact (holds_ucells (holdsK_sortWorldK _ _ _ _ _ _ _ _ _ hgl (urow_holds h) (by have := hp.1; simpa using this))).seq (lt_sortWorldK _ _ _ _ _ _ _ _ hgl) (by omega)
end Go.Proofs.YthocnlalahknjaaGreat.Dd
namespace Go.Proofs.YthocnlalahknjaaGreat.Dd
open Go.RowKit Go.Maps Go.Sort
set_option linter.unusedVariables false

/-- the dues up to a tick -/
def ofNow (l : List Du) (now : Int) : List Du := l.filter fun d => decide (d.t ≤ now)
theorem ofNow_yes {l : List Du} {now : Int} {k : Nat} (h : k < l.length) (hh : l[k].t ≤ now) : ofNow (l.take (k + 1)) now = ofNow (l.take k) now ++ [l[k]] := by
  unfold ofNow; rw [List.take_succ_eq_append_getElem h, List.filter_append]; simp [hh]
theorem ofNow_no {l : List Du} {now : Int} {k : Nat} (h : k < l.length) (hh : ¬ l[k].t ≤ now) : ofNow (l.take (k + 1)) now = ofNow (l.take k) now := by
  unfold ofNow; rw [List.take_succ_eq_append_getElem h, List.filter_append]; simp [hh]
theorem ofNow_le (l : List Du) (now : Int) (k : Nat) : (ofNow (l.take k) now).length ≤ l.length := by
  unfold ofNow; have := List.length_filter_le (fun d : Du => decide (d.t ≤ now)) (l.take k); have : (l.take k).length ≤ l.length := by rw [List.length_take]; omega
  omega
theorem boxU {W : World} {g : Nat} (x : Du) (h : W.heap[g]? = some (.cells x.cs.toArray 39 (0, 0))) : ∀ (j : Nat) (u : Value), x.cs[j]? = some u → W.cell? ((⟨g, 0, none⟩ : Addr).add j) = some u := fun j u hu => by
  have e : (⟨g, 0, none⟩ : Addr).add j = ⟨g, j, none⟩ := by unfold Addr.add; split <;> simp_all
  rw [e]; exact obj_cell h (by simpa using hu)
theorem eg67 : ∀ args w, (callFunc 67 args).run Tryz.prog w = .ok (.enter 67 args) w := enters_of Tryz.func67 (by kernel_rfl) rfl
theorem eg36 : ∀ args w, (callFunc 36 args).run Tryz.prog w = .ok (.enter 36 args) w := enters_of Tryz.func36 (by kernel_rfl) rfl
theorem sortU_nil (fn : Nat) (w : World) (p : Option Addr) (cap : Nat) : Calls Tryz.prog 35 #[.slice p 0 cap, .func (.func fn) #[] #[]] w fun e w' => e = .returned (.tuple #[]) ∧ w' = w :=
  AnyF.slices_SortFunc_none Tryz.laysF35 p cap _ w
/-- a row of a call's own, put in order -/
theorem sortUR (fn : Nat) (f : Du → Du → Int) (hf : ∀ x y W, Calls Tryz.prog fn #[.agg x.cs.toArray, .agg y.cs.toArray] W fun e w' => e = .returned (.int .i64 (f x y)) ∧ ∃ q os', w' = grow (W.drewN q) os') (hswo : SWO (ltOf f))
    (eg : ∀ args w, (callFunc fn args).run Tryz.prog w = .ok (.enter fn args) w) (w wr : World) (u : Value) (l : List Du) (h : UR w wr u l) (hlen : l.length ≤ 1000000) :
    Calls Tryz.prog 35 #[u, .func (.func fn) #[] #[]] wr fun e w' => e = .returned (.tuple #[]) ∧ ∃ L : List Du, L.Perm l ∧ InOrder f L ∧ USeq w' u L ∧ Below w.heap.size w w' := by
  obtain ⟨p, cap, rfl, hc, -, -⟩ := orow_shape h.row
  by_cases h0 : l.length = 0
  · have hl : l = [] := List.length_eq_zero_iff.1 h0
    subst hl
    refine (sortU_nil fn wr p cap).mono ?_
    rintro e w' ⟨he, rfl⟩
    exact ⟨he, [], List.Perm.refl _, List.Pairwise.nil, ⟨p, cap, rfl, Nat.zero_le _, .inl rfl⟩, h.bl⟩
  · obtain ⟨g, c1, cur, e1, _⟩ := orow_some h.row (by omega)
    injection e1 with e1 _ e2
    subst e1
    refine (sortU_any fn f hf hswo eg wr g cap l h.row w.heap.size (h.own g rfl) h.bl.size hlen).mono ?_
    rintro e w' ⟨he, L, h1, h2, h3, h4⟩
    exact ⟨he, L, h1, h2, h3, h.bl.trans h4⟩

set_option maxHeartbeats 4000000 in
set_option maxRecDepth 100000 in
theorem upTo_any (v : Value) (l : List Du) (now : Int) (w : World) (h : USeq w v l) (hlen : l.length ≤ 1000000) :
    Calls Tryz.prog 40 #[v, .int .i64 now] w fun e w' => ∃ u L, e = .returned u ∧ L.Perm (ofNow l now) ∧ InOrder byAcc L ∧ USeq w' u L ∧ Below w.heap.size w w' := by
  have h0 : UR w w (.slice none 0 0) (ofNow (l.take 0) now) := ⟨World.ownsRow_nil _ _ _ _, (fun g hg => by simp [Value.ownBlock] at hg), Below.refl _ _⟩
  obtain ⟨p, cap, rfl, hcap, hrd⟩ := h
  obtain ⟨n, hn⟩ : ∃ n, n = l.length := ⟨_, rfl⟩
  rw [← hn]
  have hn1 : n ≤ 1000000 := by omega
  replace hrd := Lib.hid hrd
  replace h0 := Lib.hid h0
  replace hn := Lib.hid hn
  clear hcap hlen
  go_enter Tryz.func40, Tryz.ntmps40
  go_wp2_with fail
  go_loopw [5, 10] (fun u i wr => ∃ k : Nat, k ≤ n ∧ i = .int .i64 (k : Int) ∧ Hid (UR w wr u (ofNow (l.take k) now))) (fun _ i _ => n - (intOf i).toNat)
  case atStart => exact ⟨0, by omega, rfl, h0⟩
  case round =>
    obtain ⟨k, hk, rfl, hS⟩ := hrel
    by_cases hkn : k < n
    · have hkl : k < l.length := by have := hn.out; omega
      obtain ⟨b, off, rfl, hlt, hall⟩ := hrd.out.resolve_left (by rintro rfl; simp at hkl)
      have hbl := hS.out.bl
      have e0 := (hbl.cell (p := ⟨b, off + k * 4 + 0, none⟩) hlt).trans (hall k hkl 0 _ rfl)
      have e1 := (hbl.cell (p := ⟨b, off + k * 4 + 1, none⟩) hlt).trans (hall k hkl 1 _ rfl)
      have e2 := (hbl.cell (p := ⟨b, off + k * 4 + 2, none⟩) hlt).trans (hall k hkl 2 _ rfl)
      have e3 := (hbl.cell (p := ⟨b, off + k * 4 + 3, none⟩) hlt).trans (hall k hkl 3 _ rfl)
      rw [Nat.add_zero] at e0
      have hgl : b < wr.heap.size := Nat.lt_of_lt_of_le hlt hbl.size
      have hle : Hid ((ofNow (l.take k) now).length ≤ 1000000) := Lib.hid (by have := ofNow_le l now k; have := hn.out; omega)
      have hbox : ∀ o, UR w (wr.alloc o) u5 (ofNow (l.take k) now) := fun o => ⟨orow_kept hS.out.row fun g' hg' => Below.heap_alloc _ _ _ (World.ownsRow.lt hS.out.row g' hg').2, hS.out.own, hS.out.bl.alloc hS.out.bl.size o⟩
      have hno : ¬ l[k].t ≤ now → ∀ o, UR w (wr.alloc o) u5 (ofNow (l.take (k + 1)) now) := fun hh o => by rw [ofNow_no hkl hh]; exact hbox o
      have hyes : l[k].t ≤ now → ∀ o o', ((wr.alloc o).alloc o').ownsRow 0 39 4 u5 (ofNow (l.take k) now).length (cellsU (ofNow (l.take k) now)) ∧
          (∀ v' w', w'.ownsRow 0 39 4 v' ((ofNow (l.take k) now).length + 1) (cellsU (ofNow (l.take k) now) ++ l[k].cs) → ((wr.alloc o).alloc o').grownBy w' u5.ownBlock → (∀ g', v'.ownBlock = some g' → u5.ownBlock = some g' ∨ wr.heap.size + 1 + 1 ≤ g') → UR w w' v' (ofNow (l.take (k + 1)) now)) := fun hh o o' => by
        have r1 := hbox o
        have r2 := orow_kept (w' := (wr.alloc o).alloc o') r1.row fun g' hg' => Below.heap_alloc _ _ _ (World.ownsRow.lt r1.row g' hg').2
        refine ⟨r2, fun v' w' h1 h2 h3 => ⟨?_, fun g' hg' => ?_, below_grown (r1.bl.alloc (by have := r1.bl.size; omega) o') h2 hS.out.own (Nat.le_refl _)⟩⟩
        · rw [ofNow_yes hkl hh, cellsU_app, List.length_append]; exact h1
        · rcases h3 g' hg' with h4 | h4
          · exact hS.out.own g' h4
          · have := hS.out.bl.size; omega
      have hsz := Lib.hid hS.out.bl.size
      clear hbl hall
      generalize l[k] = x at *
      have hnewC : ∀ (j : Nat) (u : Value), x.cs[j]? = some u → ((wr.alloc (.cells x.cs.toArray 39)).alloc (.cells x.cs.toArray 39)).cell? ((⟨wr.heap.size + 1, 0, none⟩ : Addr).add j) = some u := boxU x (new_two wr _ _)
      have h1c := x.cs_one
      replace hnewC := Lib.hid hnewC
      replace h1c := Lib.hid h1c
      by_cases hst : x.t ≤ now
      · have hyes := Lib.hid (hyes hst)
        clear hno hbox
        go_wp2_with (at_builtin; refine wpList_app1 36 39 4 32 _ Tryz.underlying36 info39 (by rfl) (by omega) (by omega) rfl _ _ rfl rfl _ _ _ rfl (hyes.out _ _).1 ⟨wr.heap.size + 1, 0, none⟩ x.cs rfl rfl hnewC.out h1c.out (by have := hle.out; omega) ?_)
        intro v' w' hr' hg' hv'
        go_wp2_with fail
        go_roundw
        case rel => exact ⟨k + 1, by omega, by go_num, Lib.hid ((hyes.out _ _).2 _ _ hr' hg' hv')⟩
        case measure => simp [intOf]; omega
      · have hno := Lib.hid (hno hst)
        clear hyes hbox
        go_wp2_with fail
        go_roundw
        case rel => exact ⟨k + 1, by omega, by go_num, Lib.hid (hno.out _)⟩
        case measure => simp [intOf]; omega
    · obtain rfl : k = n := by omega
      have hkz : ¬ (k : Int) < (k : Int) := by omega
      have hS2 : UR w wr u5 (ofNow l now) := by have h1 := hS.out; have h2 := hn.out; rw [h2, List.take_length] at h1; exact h1
      have hso := sortUR 67 byAcc (fun x y W => byAccount_any x y W) swoAcc eg67 w wr u5 _ hS2 (by have := ofNow_le l now l.length; rw [List.take_length] at this; have := hn.out; omega)
      clear hS2
      replace hS := True.intro
      replace hso := Lib.hid hso
      go_wp2_with (go_at_call 35; (with_reducible refine hso.out.mono ?_); rintro e w9 ⟨rfl, L, h1, h2, h3, h4⟩; replace h1 := Lib.hid h1; replace h2 := Lib.hid h2; replace h3 := Lib.hid h3; replace h4 := Lib.hid h4)
      go_ret
      exact ⟨_, L, rfl, h1.out, h2.out, h3.out, h4.out⟩
end Go.Proofs.YthocnlalahknjaaGreat.Dd
namespace Go.Proofs.YthocnlalahknjaaGreat.Dd
open Go.RowKit Go.Maps
set_option linter.unusedVariables false

/-- rows of amounts that are read -/
def NSeq (w : World) (v : Value) (rows : List (List Int)) : Prop :=
  ∃ a cap, v = .slice a rows.length cap ∧ (rows = [] ∨ ∃ b off, a = some ⟨b, off, none⟩ ∧ b < w.heap.size ∧ ∀ i (h : i < rows.length), ∃ p c2, w.cell? ⟨b, off + i, none⟩ = some (.slice p rows[i].length c2) ∧ Seq64 w p rows[i].length rows[i])
theorem NSeq.kept {w w' : World} {v : Value} {rows : List (List Int)} (h : NSeq w v rows) (hb : Below w.heap.size w w') : NSeq w' v rows := by
  obtain ⟨a, cap, e, h0 | ⟨b, off, e2, hlt, hall⟩⟩ := h
  · exact ⟨a, cap, e, .inl h0⟩
  · refine ⟨a, cap, e, .inr ⟨b, off, e2, Nat.lt_of_lt_of_le hlt hb.size, fun i hi => ?_⟩⟩
    obtain ⟨p, c2, h1, h2⟩ := hall i hi
    exact ⟨p, c2, (hb.cell (p := ⟨b, off + i, none⟩) hlt).trans h1, h2.kept hb⟩
/-- what a member paid of a currency -/
def payOf (rows : List (List Int)) (m c : Nat) : Int := max 0 ((rows.getD m []).getD c 0)

set_option maxHeartbeats 2000000 in
set_option maxRecDepth 100000 in
theorem payments_any (v : Value) (rows : List (List Int)) (m c : Nat) (w : World) (h : NSeq w v rows) (hr : rows.length ≤ 4611686018427387904) (hm : (m : Int) ≤ 9223372036854775807) (hcc : (c : Int) ≤ 9223372036854775807) :
    Calls Tryz.prog 72 #[v, .int .i64 (m : Int), .int .i64 (c : Int)] w fun e w' => e = .returned (.int .i64 (payOf rows m c)) ∧ w' = w := by
  obtain ⟨a, cap, rfl, hrd⟩ := h
  obtain ⟨R, hR⟩ : ∃ R, R = payOf rows m c := ⟨_, rfl⟩
  rw [← hR]
  unfold payOf at hR
  obtain ⟨n, hn⟩ : ∃ n, n = rows.length := ⟨_, rfl⟩
  rw [← hn] at hr ⊢
  by_cases h1 : m < n
  · obtain ⟨b, off, rfl, hlt, hall⟩ := hrd.resolve_left (by rintro rfl; simp at hn; omega)
    obtain ⟨p, c2, hcell, hs⟩ := hall m (by omega)
    have e1 : rows.getD m [] = rows[m]'(by omega) := by rw [List.getD_eq_getElem?_getD, List.getElem?_eq_getElem (by omega)]; rfl
    rw [e1] at hR
    generalize rows[m]'(by omega) = row at *
    obtain ⟨k, hk⟩ : ∃ k, k = row.length := ⟨_, rfl⟩
    rw [← hk] at hcell hs
    clear hall hrd e1
    obtain ⟨-, hz, hk2, hcs⟩ := hs
    by_cases h2 : c < k
    · obtain ⟨b2, off2, rfl, hlt2, hall2⟩ := hcs.resolve_left (by omega)
      have hx := hall2 c h2
      generalize row.getD c 0 = x at *
      clear hall2 hcs hz
      replace hR := Lib.hid hR
      have z1 : (m : Int) < (n : Int) := by omega
      have z2 : (c : Int) < (k : Int) := by omega
      have z3 : ¬ (n : Int) ≤ (m : Int) := by omega
      have z4 : ¬ (k : Int) ≤ (c : Int) := by omega
      clear hn hk
      go_enter Tryz.func72, Tryz.ntmps72
      go_wp2_with fail
      go_ret
      exact ⟨by rw [hR.out]; rfl, rfl⟩
    · have hx : row.getD c 0 = 0 := by rw [List.getD_eq_getElem?_getD, List.getElem?_eq_none (by omega)]; rfl
      rw [hx] at hR
      replace hR : R = 0 := by rw [hR]; rfl
      replace hR := Lib.hid hR
      have z1 : (m : Int) < (n : Int) := by omega
      have z3 : ¬ (n : Int) ≤ (m : Int) := by omega
      have z4 : (k : Int) ≤ (c : Int) := by omega
      clear hn hk hx hcs hz
      go_enter Tryz.func72, Tryz.ntmps72
      go_wp2_with fail
      go_ret
      exact ⟨by rw [hR.out]; rfl, rfl⟩
  · have hx : rows.getD m [] = [] := by rw [List.getD_eq_getElem?_getD, List.getElem?_eq_none (by omega)]; rfl
    rw [hx] at hR
    replace hR : R = 0 := by rw [hR]; rfl
    replace hR := Lib.hid hR
    have z3 : (n : Int) ≤ (m : Int) := by omega
    clear hn hx hrd
    go_enter Tryz.func72, Tryz.ntmps72
    go_wp2_with fail
    go_ret
    exact ⟨by rw [hR.out]; rfl, rfl⟩
end Go.Proofs.YthocnlalahknjaaGreat.Dd
