/- The contract of Cycle. -/
import Derived.Test.YtiehbbhjpcnbnaaGreatSF
import Derived.Scope
namespace Go.Proofs.YtiehbbhjpcnbnaaGreat
open Go.RowKit Go.Shelf
attribute [local go_sem] Oper.semAt_some
set_option linter.unusedVariables false

/-! plainly -/
def cnt2 (b : Dd.Bk) : Nat := b.l.countP fun e => decide (e.st = 2)
theorem many_eq (b : Dd.Bk) : (b.all 2).length = cnt2 b := by
  unfold Dd.Bk.all cnt2
  dsimp only
  rw [List.length_map, if_pos rfl, Dd.lowest_len, List.countP_eq_length_filter]
theorem set_yes {b : Dd.Bk} {id : Int} (h : (b.set id).1 = 0) : ∃ i, ∃ hi : i < b.l.length, b.l[i].d.id = id ∧ Dd.atL b.l id = some i ∧ b.l[i].st = 2 ∧ (b.set id).2 = { b with l := b.l.set i { b.l[i] with st := 3 } } := by
  unfold Dd.Bk.set at h ⊢
  rcases ha : Dd.atL b.l id with _ | i
  · rw [ha] at h; simp at h
  · obtain ⟨hi, he⟩ := Dd.atL_some ha
    rw [ha] at h
    dsimp only at h ⊢
    rw [Dd.getD_is hi] at h ⊢
    split at h
    · simp at h
    · rename_i hx
      have hx' : b.l[i].st = 2 := by simpa using hx
      rw [if_neg hx]
      exact ⟨i, hi, he, rfl, hx', rfl⟩
theorem set_cnt {b : Dd.Bk} {id : Int} (h : (b.set id).1 = 0) : cnt2 (b.set id).2 + 1 = cnt2 b := by
  obtain ⟨i, hi, _, _, hs, e⟩ := set_yes h
  rw [e]
  unfold cnt2
  dsimp only
  rw [List.countP_set hi]
  have hp : 0 < b.l.countP (fun e => decide (e.st = 2)) := List.countP_pos_iff.2 ⟨_, List.getElem_mem hi, by simpa using hs⟩
  simp [hs]
  omega
theorem try_yes {s : ST} {id : Int} (h : (tryS s id).1 = 0) : (s.b.deal id).2 = true ∧ s.b.state id = 2 ∧ (s.g.book (legs (s.b.deal id).1)).1 = 0 ∧ (s.b.set id).1 = 0 ∧ (tryS s id).2 = ⟨(s.g.book (legs (s.b.deal id).1)).2, (s.b.set id).2⟩ := by
  unfold tryS at h ⊢
  split at h
  · simp at h
  rename_i h1
  rw [if_neg h1]
  split at h
  · simp at h
  rename_i h2
  rw [if_neg h2]
  split at h
  · contradiction
  rename_i h3
  rw [if_neg h3]
  exact ⟨by simpa using h1, by simpa using h2, by simpa using h3, h, rfl⟩
theorem passL_cnt : ∀ (ids : List Int) {s : ST}, s.Ok → cnt2 (passL s ids).2.b + (passL s ids).1.length = cnt2 s.b
  | [], s, _ => rfl
  | x :: r, s, h => by
    unfold passL
    split
    · rename_i hx
      have h1 := passL_cnt r (try_ok h x)
      obtain ⟨_, _, _, h2, h3⟩ := try_yes hx
      have h4 := set_cnt h2
      have h5 : (tryS s x).2.b = (s.b.set x).2 := by rw [h3]
      rw [h5] at h1
      simp only [List.length_cons]
      omega
    · rename_i hx
      rw [try_err h hx]
      exact passL_cnt r h
theorem pass_cnt {s : ST} (h : s.Ok) : (passS s).2.many + (passS s).1.length = s.many := by
  unfold ST.many
  rw [many_eq, many_eq]
  exact passL_cnt _ h
theorem pass_ok {s : ST} (h : s.Ok) : (passS s).2.Ok := pass_err h _
theorem cyc_fuel : ∀ (f k : Nat) {s : ST}, s.Ok → s.many < f → s.many < k → cyc f s = cyc k s
  | 0, _, s, _, h, _ => by omega
  | _, 0, s, _, _, h => by omega
  | f + 1, k + 1, s, ho, h1, h2 => by
    unfold cyc
    split
    · rfl
    · rename_i hne
      have hl : 0 < (passS s).1.length := by
        cases e : (passS s).1 with
        | nil => exact absurd e hne
        | cons _ _ => simp
      have := pass_cnt ho
      rw [cyc_fuel f k (pass_ok ho) (by omega) (by omega)]
theorem cyc_step {s : ST} (h : s.Ok) : cycS s = if (passS s).1 = [] then ([], 1, (passS s).2) else ((passS s).1 ++ (cycS (passS s).2).1, (cycS (passS s).2).2.1 + 1, (cycS (passS s).2).2.2) := by
  have e : cycS s = cyc (s.many + 1) s := rfl
  rw [e, cyc]
  split
  · rfl
  · rename_i hne
    have hl : 0 < (passS s).1.length := by
      cases e : (passS s).1 with
      | nil => exact absurd e hne
      | cons _ _ => simp
    have h2 := pass_cnt h
    have h3 := cyc_fuel s.many ((passS s).2.many + 1) (pass_ok h) (by omega) (by omega)
    unfold cycS
    rw [h3]
/-- what is between two passes -/
structure CyI (c : GC) (n0 : Nat) (U : Nat → Prop) (s0 : ST) (w : World) (cnt : Nat) (Ds : List Nat) (s : ST) (out : List Int) (W : World) : Prop where
  jb : Jb c n0 (fun j => U j ∨ j ∈ Ds) s out W
  ds : ∀ D ∈ Ds, W.heap[D]? = some (.deferred (some []))
  nd : Ds.Nodup
  kp : Keeps U w W
  ge : ∀ D ∈ Ds, w.heap.size ≤ D
  eq : cycS s0 = (out ++ (cycS s).1, cnt + (cycS s).2.1, (cycS s).2.2)
  bd : cnt + s.many ≤ 200 ∧ out.length + s.many ≤ 200
set_option maxHeartbeats 4000000 in
set_option maxRecDepth 100000 in
theorem PS.cycle2 {K : Nat → Prop} {c : GC} {s : ST} {w : World} (h : PS K c s w) : Calls Tryz.prog 13 #[.pointer (some ⟨c.gb, 0, none⟩), .pointer (some ⟨c.kb, 0, none⟩)] w fun e w' => ∃ u, e = .returned (.tuple #[u, .int .i64 (cycS s).2.1]) ∧ Dd.IRow w' u (cycS s).1 ∧ PS (fun j => K j ∨ u.ownBlock = some j) c (cycS s).2.2 w' ∧ Kp (fun j => ¬ K j) w w' ∧ ∀ g, u.ownBlock = some g → w.heap.size ≤ g := by
  refine (callsIn_wide (n := 5)).1 ?_
  refine callsIn_of_wp_marks Tryz.func13 rfl trivial ?_ rfl
  simp only [Tryz.ntmps13, List.size_toArray, List.length_cons, List.length_nil, Nat.reduceAdd, Nat.reduceSub, Array.replicate_succ, Array.replicate_zero, List.push_toArray, List.append_toArray, List.nil_append, List.cons_append]
  gi_wp2
  refine wpIn_wide.2 (wp_scope_straight ((wpIn_wide (n := 5)).1 ?_))
  gi_wp2
  refine wpIn_label ?_
  have hn0 := heap_alloc_new w (.cells #[.slice none 0 0] 39)
  have hb0 : Below w.heap.size w (w.alloc (.cells #[.slice none 0 0] 39)) := (Below.refl _ _).alloc (Nat.le_refl _) _
  have hsz0 : (w.alloc (.cells #[.slice none 0 0] 39)).heap.size = w.heap.size + 1 := by simp
  have hKl := h.lt
  have hst : CyI c w.heap.size K s w 0 [] s [] (w.alloc (.cells #[.slice none 0 0] 39)) := by
    refine ⟨⟨⟨none, 0, hn0, World.ownsRow_nil _ _ _ _, h.more hb0 (fun j hj => ?_), (fun g hg => by simp [Value.ownBlock] at hg)⟩, fun e => ?_⟩, (fun D hD => by simp at hD), List.nodup_nil, Keeps.below hb0 hKl, (fun D hD => by simp at hD), by simp, ?_⟩
    · rcases hj with (hj | hj) | hj | hj
      · exact .inl hj
      · simp at hj
      · exact .inr ⟨by omega, by omega⟩
      · simp [Value.ownBlock] at hj
    · rcases e with e | e
      · have := hKl _ e; omega
      · simp at e
    · have : s.many ≤ 200 := by unfold ST.many; exact Nat.le_trans (all_len _ _) h.ok.b.len
      simp; omega
  generalize w.alloc (.cells #[.slice none 0 0] 39) = W0 at *
  obtain ⟨n0, hn0e⟩ : ∃ n0, n0 = w.heap.size := ⟨_, rfl⟩
  have hn0K : w.heap.size ≤ n0 := by omega
  rw [← hn0e] at hst ⊢
  replace hst := Lib.hid hst
  replace hn0e := Lib.hid hn0e
  clear hn0 hb0 hsz0
  gi_wp2
  obtain ⟨II, hII⟩ : ∃ II : Act → World → Prop, II = fun a W => ∃ (u8 u9 u16 u17 u18 u19 u20 u21 u22 u23 u24 u25 u26 u27 u28 u29 u30 u31 u32 u33 : Value) (cnt : Nat) (Ds : List Nat) (s' : ST) (out : List Int), a = { tmps := (.pointer (some ⟨c.gb, 0, none⟩) :: .pointer (some ⟨c.kb, 0, none⟩) :: undef :: undef :: .slice none 0 0 :: .int .i64 0 :: .pointer (some ⟨n0, 0, none⟩) :: .int .i64 (cnt : Nat) :: u8 :: u9 :: .pointer (some ⟨c.gb, 0, none⟩) :: .bool false :: .bool false :: .pointer (some ⟨c.kb, 0, none⟩) :: .bool false :: .bool false :: u16 :: u17 :: u18 :: u19 :: u20 :: u21 :: u22 :: u23 :: u24 :: u25 :: u26 :: u27 :: u28 :: u29 :: u30 :: u31 :: u32 :: u33 :: []).toArray, defers := Ds.map fun D => { target := .collected D, args := #[] } } ∧ CyI c n0 K s w cnt Ds s' out W := ⟨_, rfl⟩
  obtain ⟨mu, hmu⟩ : ∃ mu : Act → World → Nat, mu = fun a W => 201 - (intOf (a.tmps.getD 7 undef)).toNat := ⟨_, rfl⟩
  refine wpIn_loop II mu ?_ ?_
  · rw [hII]; exact ⟨undef, undef, undef, undef, undef, undef, undef, undef, undef, undef, undef, undef, undef, undef, undef, undef, undef, undef, undef, undef, 0, [], s, [], rfl, hst.out⟩
  intro a W hIa
  have hIa2 := hIa
  rw [hII] at hIa2
  obtain ⟨u8, u9, u16, u17, u18, u19, u20, u21, u22, u23, u24, u25, u26, u27, u28, u29, u30, u31, u32, u33, cnt, Ds, s', out, rfl, hI⟩ := hIa2
  clear hIa
  replace hII := Lib.hid hII
  replace hmu := Lib.hid hmu
  obtain ⟨dl, hdl⟩ : ∃ dl : List Deferred, dl = Ds.map fun D => { target := .collected D, args := #[] } := ⟨_, rfl⟩
  rw [← hdl]
  replace hdl := Lib.hid hdl
  obtain ⟨p, cap, hc0, hfz, hn0l, hrw, -⟩ := hI.jb.grow
  have hcl : (out.length : Int) + 1 < 9223372036854775807 := by have := hI.bd; omega
  have hw1 : wrap64 ((cnt : Int) + 1) = (cnt : Int) + 1 := by have := hI.bd; unfold wrap64; omega
  replace hw1 := Lib.hid hw1
  have cP := pass_any (some ⟨c.gb, 0, none⟩) (some ⟨c.kb, 0, none⟩) W
  replace hI := Lib.hid hI
  replace hrw := Lib.hid hrw
  gi_wp2_with (refine ⟨trivial, ?_⟩; gi_at_call 34; refine (callsIn_wide.2 cP).mono ?_; rintro e W1 ⟨rfl, hW1⟩; replace hW1 := Lib.hid hW1)
  have hbg := heap_alloc_new W (.cells #[.pointer (some ⟨c.gb, 0, none⟩)] 29)
  have hB1 : Below W.heap.size W W1 := by rw [hW1.out]; exact ((Below.refl _ W).alloc (Nat.le_refl _) _).alloc (by simp) _
  have hs1 : W1.heap.size = W.heap.size + 2 := by rw [hW1.out]; simp
  have hcg : W1.cell? ⟨W.heap.size, 0, none⟩ = some (.pointer (some ⟨c.gb, 0, none⟩)) := by
    rw [hW1.out]; exact obj_cell ((Below.heap_alloc _ _ _ (by simp)).trans hbg) rfl
  have hcb : W1.cell? ⟨W.heap.size + 1, 0, none⟩ = some (.pointer (some ⟨c.kb, 0, none⟩)) := by
    rw [hW1.out]; exact obj_cell (Dd.new_two W _ _) rfl
  clear hbg
  obtain ⟨U0, hU0⟩ : ∃ U0 : Nat → Prop, U0 = fun j => (K j ∨ j ∈ Ds) ∨ (W.heap.size ≤ j ∧ j < W1.heap.size) := ⟨_, rfl⟩
  have hUlt : ∀ j, U0 j → j < W1.heap.size := fun j hj => by
    rw [hU0] at hj
    rcases hj with hj | hj
    · have := hI.out.jb.ps.lt j hj; omega
    · omega
  have hgU : U0 W.heap.size ∧ U0 (W.heap.size + 1) := by rw [hU0]; exact ⟨.inr ⟨by omega, by omega⟩, .inr ⟨by omega, by omega⟩⟩
  replace hs1 := Lib.hid hs1
  replace hU0 := Lib.hid hU0
  replace hB1 := Lib.hid hB1
  refine wpIn_range_free (σ := (Nat → Prop) × ST) (α := Int) (gf := 59) (lb := #[.pointer (some ⟨W.heap.size + 1, 0, none⟩), .pointer (some ⟨W.heap.size, 0, none⟩)]) rfl (enters_of Tryz.func59 (by kernel_rfl) rfl) (enc := fun x => .int .i64 x) rfl
    (fun σ o Wx => Jb c n0 (fun j => σ.1 j ∨ j = W1.heap.size + 1 ∨ j = W1.heap.size) σ.2 (out ++ o) Wx ∧ Wx.heap[W1.heap.size]? = some (.deferred (some [])))
    (fun σ j => σ.1 j ∨ j = W1.heap.size + 1 ∨ j = W1.heap.size) (fun x o => o.length ≤ 1000000)
    (fun σ o Wx => σ = (U0, (passS s').2) ∧ o = (passS s').1 ∧ Keeps U0 W1 Wx)
    ?put ?sput (fun x => { tmps := (.pointer (some ⟨c.gb, 0, none⟩) :: .pointer (some ⟨c.kb, 0, none⟩) :: undef :: undef :: .slice none 0 0 :: .int .i64 0 :: .pointer (some ⟨n0, 0, none⟩) :: .int .i64 (wrap64 ((cnt : Int) + 1)) :: .int .i64 (out.length : Nat) :: .int .i64 x :: .pointer (some ⟨c.gb, 0, none⟩) :: .bool false :: .bool false :: .pointer (some ⟨c.kb, 0, none⟩) :: .bool false :: .bool false :: .int .i64 (cnt : Nat) :: .int .i64 (wrap64 ((cnt : Int) + 1)) :: .slice p out.length cap :: .int .i64 (out.length : Nat) :: .pointer (some ⟨c.gb, 0, none⟩) :: .pointer (some ⟨c.kb, 0, none⟩) :: .func (.func 59) #[] #[.pointer (some ⟨W.heap.size + 1, 0, none⟩), .pointer (some ⟨W.heap.size, 0, none⟩)] :: .int .i64 x :: u24 :: u25 :: u26 :: u27 :: u28 :: u29 :: u30 :: u31 :: u32 :: u33 :: []).toArray, defers := [] }) ?assign ?body ?call ?done
  case put =>
    rintro σ o Wx r r' ⟨h1, h2⟩ hl
    exact ⟨h1.put (.inr (.inl rfl)) _, by rw [World.putObj_heap_other (by omega)]; exact h2⟩
  case sput =>
    rintro σ o Wx r r' ⟨h1, h2, h3⟩ hl
    refine ⟨h1, h2, h3.os, h3.tape, h3.output, by have := h3.size; simpa using this, fun j hj => ?_⟩
    have : j ≠ W1.heap.size + 1 := fun e => by have := hUlt j hj; omega
    rw [World.putObj_heap_other this]; exact h3.at_ j hj
  case assign =>
    intro x Wx Kx hK
    gi_wp2
    exact hK
  case body =>
    rintro σ o x Wx ⟨hj, hd⟩ hok
    obtain ⟨p2, cap2, hc2, hfz2, hn02, hrw2, hrow2, hfin⟩ := hj.grow
    have hlen2 : (out ++ o).length + 1 ≤ 16777216 := by have := hI.out.bd; rw [List.length_append]; omega
    have hDL : W1.heap.size ≠ W1.heap.size + 1 := by omega
    have hnew := cell_one_new Wx (.int .i64 x) 3
    generalize hq : (out ++ o) = q at *
    replace hfin := Lib.hid hfin
    replace hrow2 := Lib.hid hrow2
    replace hrw2 := Lib.hid hrw2
    replace hj := Lib.hid hj
    replace hd := Lib.hid hd
    gi_wp2_with (gi_at_builtin; refine wpListIn_app1 39 3 1 8 _ Tryz.underlying39 Dd.info3 (by rfl) (by omega) (by omega) rfl _ _ rfl rfl _ _ _ rfl (hrow2.out _) ⟨Wx.heap.size, 0, none⟩ [.int .i64 x] rfl rfl hnew (by simp [Value.oneCell']) hlen2 ?_; intro v' w1 hown hgrow hv; obtain ⟨g', cap', rfl⟩ := ownsRow_succ hown; obtain ⟨hc3, hf3, hj3, hk3⟩ := hfin.out _ x g' cap' w1 hown hgrow hv; replace hown := Lib.hid hown; replace hgrow := Lib.hid hgrow; replace hv := Lib.hid hv; replace hj3 := Lib.hid hj3; replace hk3 := Lib.hid hk3)
    exact ⟨⟨by rw [← List.append_assoc, hq]; exact hj3.out, (hk3.out.at_ _ (.inr (.inr rfl))).trans hd.out⟩, hk3.out.at_ _ (.inr (.inl rfl)), hk3.out⟩
  case call =>
    intro R0 hY
    have hBS : Below W1.heap.size W1 ((W1.alloc (.deferred (some []))).alloc (.loop R0)) := ((Below.refl _ W1).alloc (Nat.le_refl _) _).alloc (by simp) _
    have hBW := hB1.out.trans (hBS.mono hB1.out.size)
    have hss : ((W1.alloc (.deferred (some []))).alloc (.loop R0)).heap.size = W1.heap.size + 2 := by simp
    have hd0 : ((W1.alloc (.deferred (some []))).alloc (.loop R0)).heap[W1.heap.size]? = some (.deferred (some [])) := (Below.heap_alloc _ _ _ (by simp)).trans (heap_alloc_new W1 _)
    have hl0 : ((W1.alloc (.deferred (some []))).alloc (.loop R0)).heap[W1.heap.size + 1]? = some (.loop R0) := Dd.new_two W1 _ _
    have hJI : JI c 4 (W1.heap.size + 1) (fun U s o Wx => Jb c n0 (fun j => U j ∨ j = W1.heap.size + 1 ∨ j = W1.heap.size) s (out ++ o) Wx ∧ Wx.heap[W1.heap.size]? = some (.deferred (some [])) ∧ Wx.heap[W1.heap.size + 1]? = some (.loop R0)) := by
      refine ⟨fun h => h.1.ps.less fun j hj => .inl hj, ?_, ?_, ?_⟩
      · rintro U U' s o Wx Wy ⟨h1, h2, h3⟩ hb hU
        refine ⟨h1.more hb fun j hj => ?_, (hb.block _ (obj_lt h2)).trans h2, (hb.block _ (obj_lt h3)).trans h3⟩
        rcases hj with hj | hj
        · exact (hU j hj).imp .inl id
        · exact .inl (.inr hj)
      · rintro U s o Wx id ⟨h1, h2, h3⟩ hid
        exact (h1.tryc hid).mono fun e Wy ⟨e1, e2, e3⟩ => ⟨e1, ⟨e2, (e3.at_ _ (.inr (.inr rfl))).trans h2, (e3.at_ _ (.inr (.inl rfl))).trans h3⟩, e3.less fun j hj => .inl hj⟩
      · rintro U s o Wx x ⟨h1, h2, h3⟩ hx hl
        exact (hY (U, s) o x Wx ⟨h1, h2⟩ h3 hl).mono fun e Wy ⟨e1, e2, e3, e4⟩ => ⟨e1, ⟨e2.1, e2.2, e3⟩, e4.less fun j hj => .inl hj⟩
    have hJ0 : Jb c n0 (fun j => U0 j ∨ j = W1.heap.size + 1 ∨ j = W1.heap.size) s' (out ++ []) ((W1.alloc (.deferred (some []))).alloc (.loop R0)) := by
      rw [List.append_nil]
      refine hI.out.jb.more hBW fun j hj => ?_
      have := hs1.out
      rw [hU0.out] at hj
      rcases hj with (hj | hj) | hj | hj
      · exact .inl hj
      · exact .inr ⟨hj.1, by omega⟩
      · exact .inr ⟨by omega, by omega⟩
      · exact .inr ⟨by omega, by omega⟩
    refine (pass1_in hJI (U := U0) (s := s') (out := []) ⟨hJ0, hd0, hl0⟩ hgU.1 hgU.2 ((hBS.cell (p := ⟨W.heap.size, 0, none⟩) (World.block_lt_of_cell? _ _ hcg)).trans hcg) ((hBS.cell (p := ⟨W.heap.size + 1, 0, none⟩) (World.block_lt_of_cell? _ _ hcb)).trans hcb) (by simp)).mono ?_
    rintro e Wy ⟨hv, ⟨g1, g2, g3⟩, hk⟩
    rw [List.nil_append] at g1
    exact ⟨hv, (U0, (passS s').2), (passS s').1, ⟨rfl, rfl, (Keeps.below hBS hUlt).trans hk⟩, ⟨g1, g2⟩, g3⟩
  case done =>
    rintro σ o Wx ⟨rfl, rfl, hk⟩ ⟨hj, hd⟩
    have hI2 := hI.out
    have hok := hI2.jb.ps.ok
    have hstep := cyc_step hok
    have hpc := pass_cnt hok
    have hbs := hB1.out
    have hD2 : ∀ D ∈ Ds, D < W.heap.size := fun D hD => obj_lt (hI2.ds D hD)
    have hjb : Jb c n0 (fun j => K j ∨ j ∈ W1.heap.size :: Ds) (passS s').2 (out ++ (passS s').1) Wx := by
      refine hj.more (Below.refl _ _) fun j hj => .inl ?_
      dsimp only
      rw [hU0.out]
      rcases hj with hj | hj
      · exact .inl (.inl (.inl hj))
      · rcases List.mem_cons.1 hj with hj | hj
        · exact .inr (.inr hj)
        · exact .inl (.inl (.inr hj))
    have hds : ∀ D ∈ W1.heap.size :: Ds, Wx.heap[D]? = some (.deferred (some [])) := fun D hD => by
      rcases List.mem_cons.1 hD with hD | hD
      · rw [hD]; exact hd
      · rw [hk.at_ D (by rw [hU0.out]; exact .inl (.inr hD)), hbs.block D (hD2 D hD)]; exact hI2.ds D hD
    have hnd : (W1.heap.size :: Ds).Nodup := List.nodup_cons.2 ⟨fun hm => by have := hD2 _ hm; have := hbs.size; omega, hI2.nd⟩
    have hkp : Keeps K w Wx := (hI2.kp.trans (Keeps.below hbs fun j hj => Nat.lt_of_lt_of_le (hKl j hj) hI2.kp.size)).trans (hk.less fun j hj => by rw [hU0.out]; exact .inl (.inl hj))
    have hge : ∀ D ∈ W1.heap.size :: Ds, w.heap.size ≤ D := fun D hD => by
      rcases List.mem_cons.1 hD with hD | hD
      · rw [hD]; exact Nat.le_trans hI2.kp.size hbs.size
      · exact hI2.ge D hD
    have heq := hI2.eq
    have hbd := hI2.bd
    obtain ⟨p2, cap2, hc2, hfz2, hn02, hrw2, -⟩ := hjb.grow
    have hll : (out ++ (passS s').1).length = out.length + (passS s').1.length := List.length_append
    obtain ⟨q, hq⟩ : ∃ q, q = out ++ (passS s').1 := ⟨_, rfl⟩
    rw [← hq] at hjb hc2 hrw2 hll
    have hdl2 : ({ target := .collected W1.heap.size, args := #[] } : Deferred) :: dl = (W1.heap.size :: Ds).map fun D => { target := .collected D, args := #[] } := by rw [hdl.out]; rfl
    dsimp only
    rw [hdl2]
    clear hj hd hk
    generalize W1.heap.size :: Ds = Ds2 at *
    replace hjb := Lib.hid hjb
    replace hds := Lib.hid hds
    replace hnd := Lib.hid hnd
    replace hkp := Lib.hid hkp
    replace hge := Lib.hid hge
    replace heq := Lib.hid heq
    replace hrw2 := Lib.hid hrw2
    replace hI2 := Lib.hid hI2
    replace hbs := Lib.hid hbs
    replace hok := Lib.hid hok
    replace hD2 := Lib.hid hD2
    by_cases he : (passS s').1 = []
    · rw [if_pos he] at hstep
      have hlq : (q.length : Int) = (out.length : Int) := by rw [hll, he]; simp
      have hlt : ((q.length : Int) == (out.length : Int)) = true := by simpa using hlq
      replace hstep := Lib.hid hstep
      replace hpc := Lib.hid hpc
      replace hq := Lib.hid hq
      replace hlq := Lib.hid hlq
      gi_wp2
      have hqo : q.length = out.length := by rw [hll, he]; simp
      have hR1 : (cycS s).1 = q := by rw [heq.out, hstep.out, hq.out, he]
      have hR2 : (cycS s).2.1 = wrap64 ((cnt : Int) + 1) := by rw [heq.out, hstep.out, hw1.out]
      have hR3 : (cycS s).2.2 = (passS s').2 := by rw [heq.out, hstep.out]
      obtain ⟨⟨p3, cap3, h1, h2, h3, h4⟩, h5⟩ := hjb.out
      have e3 := obj_cell h1 (i := 0) rfl
      rw [hc2] at e3
      obtain ⟨rfl, rfl⟩ : p2 = p3 ∧ cap2 = cap3 := by simpa using e3
      rw [← hqo]
      refine leaves_marks (F := Fence.wide) (n := 5) (fun Wy => PS (fun j => K j ∨ j ∈ Ds2 ∨ (Value.slice p2 q.length cap2).ownBlock = some j) c (passS s').2 Wy ∧ Dd.IRow Wy (.slice p2 q.length cap2) q ∧ Keeps K w Wy) (fun D => D ∈ Ds2) ?_ ?_ Ds2 Wx hnd.out (fun D h => h) hds.out ⟨h3.less fun j hj => ?_, h2, hkp.out⟩
      · rintro Wy D hDA ⟨k1, k2, k3⟩ hD
        have hk := kp_put Wy D (.deferred none)
        refine ⟨k1.kp hk fun j _ e => by rw [e]; exact .inr (.inl hDA), irow_kept k2 fun g hg => ?_, k3.os, k3.tape, k3.output, by simpa using k3.size, fun j hj => ?_⟩
        · refine World.putObj_heap_other ?_
          rintro rfl
          obtain ⟨cur, hc⟩ := Dd.irow_obj k2 hg
          rw [hD] at hc; simp at hc
        · have h6 := hKl j hj
          have h7 := hge.out D hDA
          rw [World.putObj_heap_other (by omega)]; exact k3.at_ j hj
      · rintro Wy ⟨k1, k2, k3⟩
        refine ⟨_, results_tmp2 (t := 4) (u := 5) rfl _ _ _, .slice p2 q.length cap2, by rw [hR2]; rfl, by rw [hR1]; exact k2, by rw [hR3]; exact k1.less fun j hj => hj.imp id .inr, k3.kp, fun g hg => Nat.le_trans hn0K (h4 g hg).2⟩
      · rcases hj with hj | hj | hj
        · exact .inl (.inl hj)
        · exact .inl (.inr hj)
        · exact .inr (.inr hj)
    · rw [if_neg he] at hstep
      have hpos : 0 < (passS s').1.length := by
        cases e : (passS s').1 with
        | nil => exact absurd e he
        | cons _ _ => simp
      have hlq : ¬ (q.length : Int) = (out.length : Int) := by omega
      have hlt : ((q.length : Int) == (out.length : Int)) = false := by simpa using hlq
      have hnew : CyI c n0 K s w (cnt + 1) Ds2 (passS s').2 q Wx := by
        refine ⟨hjb.out, hds.out, hnd.out, hkp.out, hge.out, ?_, by omega⟩
        rw [heq.out, hstep, hq]
        simp only [List.append_assoc, Prod.mk.injEq, true_and, and_true]
        push_cast
        omega
      replace hnew := Lib.hid hnew
      replace hstep := Lib.hid hstep
      replace hpc := Lib.hid hpc
      replace hq := Lib.hid hq
      replace hlq := Lib.hid hlq
      replace hll := Lib.hid hll
      replace he := Lib.hid he
      gi_wp2
      rw [hII.out, hmu.out]
      refine ⟨⟨.int .i64 (out.length : Nat), u9, .int .i64 (cnt : Nat), .int .i64 (wrap64 ((cnt : Int) + 1)), .slice p out.length cap, .int .i64 (out.length : Nat), .pointer (some ⟨c.gb, 0, none⟩), .pointer (some ⟨c.kb, 0, none⟩), .func (.func 59) #[] #[.pointer (some ⟨W.heap.size + 1, 0, none⟩), .pointer (some ⟨W.heap.size, 0, none⟩)], u23, u24, u25, u26, u27, .slice p2 q.length cap2, .int .i64 (q.length : Nat), .int .i64 (out.length : Nat), .bool false, u32, u33, cnt + 1, Ds2, (passS s').2, q, by rw [hw1.out]; rfl, hnew.out⟩, ?_⟩
      have := hbd
      have h9 := hpc.out
      rw [hw1.out]
      show 201 - (((cnt : Int) + 1)).toNat < 201 - ((cnt : Int)).toNat
      omega
theorem PS.cycle {K : Nat → Prop} {c : GC} {s : ST} {w : World} (h : PS K c s w) : Calls Tryz.prog 13 #[.pointer (some ⟨c.gb, 0, none⟩), .pointer (some ⟨c.kb, 0, none⟩)] w fun e w' => ∃ u, e = .returned (.tuple #[u, .int .i64 (cycS s).2.1]) ∧ Dd.IRow w' u (cycS s).1 ∧ PS (fun j => K j ∨ u.ownBlock = some j) c (cycS s).2.2 w' ∧ Kp (fun j => ¬ K j) w w' :=
  h.cycle2.mono fun e w' ⟨u, e1, e2, e3, e4, _⟩ => ⟨u, e1, e2, e3, e4⟩
end Go.Proofs.YtiehbbhjpcnbnaaGreat
