/- The contract of Net.
  The contracts of own and of the document's Same of dues. -/
import Derived.Test.YthocnlalahknjaaGreatQPff
namespace Go.Proofs.YthocnlalahknjaaGreat.Dd
open Go.RowKit Go.Maps
set_option linter.unusedVariables false

/-- one pays another one -/
def pay1 (F : Nat → List Int) (a b c : Nat) (x : Int) : Nat → List Int := updF (updF F (a * 8 + c) (F (a * 8 + c) ++ [-x])) (b * 8 + c) (updF F (a * 8 + c) (F (a * 8 + c) ++ [-x]) (b * 8 + c) ++ [x])
/-- both pay -/
def payD (F : Nat → List Int) (d : Dl) : Nat → List Int := pay1 (pay1 F d.a.toNat d.b.toNat d.sc.toNat d.s) d.b.toNat d.a.toNat d.bc.toNat d.t
/-- what flows by instructions -/
def flowsL (ds : List Dl) : Nat → List Int := ds.foldl payD fun _ => []
theorem flowsL_app (ds : List Dl) (d : Dl) : flowsL (ds ++ [d]) = payD (flowsL ds) d := by unfold flowsL; rw [List.foldl_append]; rfl
/-- an instruction that may stand among so many members and currencies -/
def DlOk (d : Dl) : Prop := 0 ≤ d.a ∧ d.a < 16 ∧ 0 ≤ d.b ∧ d.b < 16 ∧ 0 ≤ d.sc ∧ d.sc < 8 ∧ 0 ≤ d.bc ∧ d.bc < 8 ∧ 1 ≤ d.s ∧ d.s ≤ 9223372036854775807 ∧ 1 ≤ d.t ∧ d.t ≤ 9223372036854775807
/-- is a member, or a currency, none of these? -/
def outD (d : Dl) (nm nc : Int) : Bool := decide (nm ≤ max d.a d.b) || decide (nc ≤ max d.sc d.bc)
theorem pay1_len (F : Nat → List Int) (a b c : Nat) (x : Int) (n : Nat) (h : ∀ i, (F i).length ≤ n) : ∀ i, (pay1 F a b c x i).length ≤ n + 2 := fun i => by
  unfold pay1 updF
  have h1 := h (a * 8 + c); have h2 := h (b * 8 + c); have h3 := h i
  (repeat' split) <;> simp <;> omega
theorem payD_len (F : Nat → List Int) (d : Dl) (n : Nat) (h : ∀ i, (F i).length ≤ n) : ∀ i, (payD F d i).length ≤ n + 4 := fun i =>
  pay1_len _ _ _ _ _ (n + 2) (pay1_len F _ _ _ _ n h) i
theorem flowsL_len : ∀ (ds : List Dl) (i : Nat), (flowsL ds i).length ≤ 4 * ds.length := by
  intro ds
  have key : ∀ (ds : List Dl) (F : Nat → List Int) (n : Nat), (∀ i, (F i).length ≤ n) → ∀ i, (ds.foldl payD F i).length ≤ n + 4 * ds.length := by
    intro ds
    induction ds with
    | nil => intro F n h i; exact h i
    | cons d r ih =>
      intro F n h i
      have := ih (payD F d) (n + 4) (payD_len F d n h) i
      rw [List.foldl_cons, List.length_cons]; omega
  intro i
  have := key ds (fun _ => []) 0 (fun _ => Nat.le_refl _) i
  unfold flowsL; omega
theorem pay1_amt (F : Nat → List Int) (a b c : Nat) (x : Int) (hx : 1 ≤ x) (hx2 : x ≤ 9223372036854775807) (h : ∀ i, ∀ y ∈ F i, Amt y) : ∀ i, ∀ y ∈ pay1 F a b c x i, Amt y := by
  have a1 : Amt x := ⟨by omega, hx2⟩
  have a2 : Amt (-x) := ⟨by omega, by omega⟩
  have h1 : ∀ i, ∀ y ∈ updF F (a * 8 + c) (F (a * 8 + c) ++ [-x]) i, Amt y := fun i y hy => by
    unfold updF at hy
    split at hy
    · rcases List.mem_append.1 hy with hy | hy
      · exact h _ y hy
      · obtain rfl := List.mem_singleton.1 hy; exact a2
    · exact h i y hy
  intro i y hy
  unfold pay1 at hy
  unfold updF at hy
  split at hy
  · rcases List.mem_append.1 hy with hy | hy
    · exact h1 _ y (by unfold updF; exact hy)
    · obtain rfl := List.mem_singleton.1 hy; exact a1
  · exact h1 i y (by unfold updF; exact hy)
theorem flowsL_amt (ds : List Dl) (hd : ∀ d ∈ ds, DlOk d) : ∀ i, ∀ y ∈ flowsL ds i, Amt y := by
  have key : ∀ (ds : List Dl) (F : Nat → List Int), (∀ d ∈ ds, DlOk d) → (∀ i, ∀ y ∈ F i, Amt y) → ∀ i, ∀ y ∈ ds.foldl payD F i, Amt y := by
    intro ds
    induction ds with
    | nil => intro F _ h i; exact h i
    | cons d r ih =>
      intro F hd h
      obtain ⟨_, _, _, _, _, _, _, _, s1, s2, t1, t2⟩ := hd d (by simp)
      exact ih (payD F d) (fun e he => hd e (by simp [he])) (pay1_amt _ _ _ _ _ t1 t2 (pay1_amt F _ _ _ _ s1 s2 h))
  exact key ds _ hd (fun i y hy => by cases hy)

/-- what Net hands back, of the instructions that are matched -/
def NetOut (ds : List Dl) (nm nc : Int) (w' : World) (e : Ending) : Prop :=
  ((nm < 1 ∨ 16 < nm ∨ nc < 1 ∨ 8 < nc) ∧ e = .returned (.tuple #[.slice none 0 0, .int .i64 1])) ∨
  (1 ≤ nm ∧ nm ≤ 16 ∧ 1 ≤ nc ∧ nc ≤ 8 ∧ ds.any (fun d => outD d nm nc) = true ∧ e = .returned (.tuple #[.slice none 0 0, .int .i64 1])) ∨
  (1 ≤ nm ∧ nm ≤ 16 ∧ 1 ≤ nc ∧ nc ≤ 8 ∧ ds.any (fun d => outD d nm nc) = false ∧ overF (flowsL ds) nm.toNat nc.toNat = true ∧ e = .returned (.tuple #[.slice none 0 0, .int .i64 3])) ∨
  (1 ≤ nm ∧ nm ≤ 16 ∧ 1 ≤ nc ∧ nc ≤ 8 ∧ ds.any (fun d => outD d nm nc) = false ∧ overF (flowsL ds) nm.toNat nc.toNat = false ∧ ∃ u, e = .returned (.tuple #[u, .int .i64 0]) ∧ NSeq w' u (netsL (flowsL ds) nm.toNat nc.toNat))
/-- the instructions that a book holds as matched -/
def matchedD (b : Bk) : List Dl := (b.all 2).map fun id => (b.deal id).1

set_option maxHeartbeats 1000000 in
set_option maxRecDepth 100000 in
theorem net_arg (gb : Nat) (nm nc : Int) (w : World) (h : nm < 1 ∨ 16 < nm ∨ nc < 1 ∨ 8 < nc) : Calls Tryz.prog 9 #[.pointer (some ⟨gb, 0, none⟩), .int .i64 nm, .int .i64 nc] w fun e w' => e = .returned (.tuple #[.slice none 0 0, .int .i64 1]) ∧ w = w' := by
  by_cases a1 : nm < 1
  · go_enter Tryz.func9, Tryz.ntmps9
    go_wp2_with fail
    go_ret2
    exact ⟨rfl, rfl⟩
  · by_cases a2 : 16 < nm
    · go_enter Tryz.func9, Tryz.ntmps9
      go_wp2_with fail
      go_ret2
      exact ⟨rfl, rfl⟩
    · by_cases a3 : nc < 1
      · go_enter Tryz.func9, Tryz.ntmps9
        go_wp2_with fail
        go_ret2
        exact ⟨rfl, rfl⟩
      · have a4 : 8 < nc := by omega
        go_enter Tryz.func9, Tryz.ntmps9
        go_wp2_with fail
        go_ret2
        exact ⟨rfl, rfl⟩
theorem net_nil (nm nc : Int) (w : World) : Calls Tryz.prog 9 #[.pointer none, .int .i64 nm, .int .i64 nc] w fun e w' => e = .returned (.tuple #[.slice none 0 0, .int .i64 1]) ∧ w = w' := by
  go_enter Tryz.func9, Tryz.ntmps9
  go_wp2_with fail
  go_ret2
  exact ⟨rfl, rfl⟩

theorem zero67 : Tryz.zeroCells67 = ((List.range 128).map fun _ => Value.slice none 0 0).toArray := by kernel_rfl
theorem flows0 (P : Nat → Prop) (w w2 : World) (hb : Below (w.heap.size + 1) (w.alloc (.cells Tryz.zeroCells67 67)) w2) (hp : P w.heap.size) : FlowsIn P w2 w.heap.size (flowsL []) := by
  refine ⟨fun _ => .slice none 0 0, ?_, fun i hi => World.ownsRow_nil _ _ _ _, fun i hi => by simp [Value.ownBlock], fun i j _ _ _ g hg => by simp [Value.ownBlock] at hg, fun i hi g hg => by simp [Value.ownBlock] at hg, hp⟩
  rw [hb.block _ (by omega), heap_alloc_new, zero67]
theorem FlowsIn.kept {P : Nat → Prop} {w w' : World} {f : Nat} {F : Nat → List Int} (h : FlowsIn P w f F) (hb : Below w.heap.size w w') : FlowsIn P w' f F := by
  obtain ⟨vs, h⟩ := h; exact ⟨vs, h.kept hb⟩
theorem FlowsIn.weak {P Q : Nat → Prop} {w : World} {f : Nat} {F : Nat → List Int} (h : FlowsIn P w f F) (hq : ∀ j, j < w.heap.size → P j → Q j) : FlowsIn Q w f F := by
  obtain ⟨vs, h⟩ := h; exact ⟨vs, h.weak hq⟩
theorem boxed60 {W : World} (d : Dl) {g : Nat} (h : W.heap[g]? = some (.cells #[.int .i64 d.id, .int .i64 d.a, .int .i64 d.b, .int .i64 d.sc, .int .i64 d.bc, .int .i64 d.s, .int .i64 d.t] 60 (0, 0))) :
    W.cell? ⟨g, 1, none⟩ = some (.int .i64 d.a) ∧ W.cell? ⟨g, 2, none⟩ = some (.int .i64 d.b) ∧ W.cell? ⟨g, 3, none⟩ = some (.int .i64 d.sc) ∧ W.cell? ⟨g, 4, none⟩ = some (.int .i64 d.bc) ∧ W.cell? ⟨g, 5, none⟩ = some (.int .i64 d.s) ∧ W.cell? ⟨g, 6, none⟩ = some (.int .i64 d.t) :=
  ⟨obj_cell h rfl, obj_cell h rfl, obj_cell h rfl, obj_cell h rfl, obj_cell h rfl, obj_cell h rfl⟩

set_option maxHeartbeats 4000000 in
set_option maxRecDepth 100000 in
theorem net_main {P : Nat → Prop} {w : World} {gb : Nat} {b : Bk} (h : PB P w gb b) (nm nc : Nat) (h1 : 1 ≤ nm) (h2 : nm ≤ 16) (h3 : 1 ≤ nc) (h4 : nc ≤ 8) (hlen : b.l.length ≤ 120) (hnd : ((ofSt b.l 2).map (·.nth)).Nodup)
    (hids : ∀ id ∈ b.all 2, In64 id) (hal : (b.all 2).length ≤ 120) (hok : ∀ d ∈ matchedD b, DlOk d) :
    Calls Tryz.prog 9 #[.pointer (some ⟨gb, 0, none⟩), .int .i64 (nm : Int), .int .i64 (nc : Int)] w fun e w' => Below w.heap.size w w' ∧ NetOut (matchedD b) nm nc w' e := by
  have hall := fun W (hW : PB P W gb b) => all_any hW 2 (by omega) (fun _ => hnd)
  have hdeal := fun W (hW : PB P W gb b) id (hid : In64 id) => deal_any hW hid (by omega)
  obtain ⟨ids, hidsE⟩ : ∃ ids, ids = b.all 2 := ⟨_, rfl⟩
  have hds : matchedD b = ids.map fun id => (b.deal id).1 := by rw [hidsE]; rfl
  rw [← hidsE] at hids hal hall
  rw [hds] at hok ⊢
  obtain ⟨ds, hdsE⟩ : ∃ ds, ds = ids.map fun id => (b.deal id).1 := ⟨_, rfl⟩
  rw [← hdsE] at hok ⊢
  have hdl : ds.length = ids.length := by rw [hdsE, List.length_map]
  have z1 : ¬ (nm : Int) < 1 := by omega
  have z2 : ¬ (16 : Int) < (nm : Int) := by omega
  have z3 : ¬ (nc : Int) < 1 := by omega
  have z4 : ¬ (8 : Int) < (nc : Int) := by omega
  replace h := Lib.hid h
  replace hall := Lib.hid hall
  replace hdeal := Lib.hid hdeal
  replace hids := Lib.hid hids
  replace hok := Lib.hid hok
  replace hdsE := Lib.hid hdsE
  replace hdl := Lib.hid hdl
  clear hidsE hds hnd
  go_enter Tryz.func9, Tryz.ntmps9
  go_upto_region 4 with fail
  obtain ⟨w1, hw1⟩ : ∃ w1, w1 = w.alloc (.cells Tryz.zeroCells67 67) := ⟨_, rfl⟩
  rw [← hw1]
  have hb1 : Below w.heap.size w w1 := by rw [hw1]; exact (Below.refl _ _).alloc (Nat.le_refl _) _
  have hs1 : w1.heap.size = w.heap.size + 1 := by rw [hw1]; simp
  have hpb : PB (fun j => P j ∧ j < w.heap.size) w gb b := (PB.live gb b).weak h.out fun j hj hp => ⟨hp, hj⟩
  have hpb1 : PB P w1 gb b := (PB.live gb b).kept (F := fun _ => False) h.out (Kp.of_below hb1) (fun _ _ _ h => h)
  have hall1 := hall.out w1 hpb1
  replace hw1 := Lib.hid hw1
  replace hb1 := Lib.hid hb1
  replace hs1 := Lib.hid hs1
  replace hpb := Lib.hid hpb
  replace hall1 := Lib.hid hall1
  clear hall hpb1 h
  go_wp2_with (go_at_call 25; (with_reducible refine hall1.out.mono ?_); rintro e w2 ⟨u, rfl, hZ⟩; obtain ⟨pu, cu, rfl, -, -, -⟩ := orow_shape hZ.row; replace hZ := Lib.hid hZ)
  obtain ⟨G, hG⟩ : ∃ G : Nat → Prop, G = fun j => j = w.heap.size ∨ w2.heap.size ≤ j := ⟨_, rfl⟩
  have hs2 : w1.heap.size ≤ w2.heap.size := hZ.out.bl.size
  have hF0 : FlowsIn G w2 w.heap.size (flowsL (ds.take 0)) := by
    refine flows0 G w w2 ?_ (by rw [hG]; exact .inl rfl)
    have := hZ.out.bl
    rw [hs1.out, hw1.out] at this
    exact this
  have hcell : ∀ k (hk : k < ids.length), ∃ g, pu = some ⟨g, 0, none⟩ ∧ ¬ G g ∧ w2.cell? ⟨g, k, none⟩ = some (.int .i64 ids[k]) := fun k hk => by
    obtain ⟨g, c1, cur, e1, _⟩ := orow_some hZ.out.row (by omega)
    injection e1 with e1 _ _
    subst e1
    refine ⟨g, rfl, ?_, ?_⟩
    · rw [hG]
      have g1 := hZ.out.own g rfl
      have g2 := (World.ownsRow.lt hZ.out.row g rfl).2
      have := hs1.out
      rintro (h | h) <;> omega
    · have := IRow.at_ hZ.out.row (g := g) (k := k) rfl hk
      rwa [List.getD_eq_getElem?_getD, List.getElem?_eq_getElem hk] at this
  have hwK : Kp G w w2 := Kp.of_below (hb1.out.trans (hZ.out.bl.mono (by have := hs1.out; omega)))
  have hGw : ∀ j, j < w.heap.size → ¬ G j := fun j hj => by rw [hG]; have := hs1.out; rintro (h | h) <;> omega
  have hGn : ∀ j, w2.heap.size ≤ j → G j := fun j hj => by rw [hG]; exact .inr hj
  obtain ⟨n, hn⟩ : ∃ n, n = ids.length := ⟨_, rfl⟩
  rw [← hn]
  have hn100 : n ≤ 120 := by omega
  replace hF0 := Lib.hid hF0
  replace hcell := Lib.hid hcell
  replace hwK := Lib.hid hwK
  replace hGw := Lib.hid hGw
  replace hGn := Lib.hid hGn
  replace hG := Lib.hid hG
  replace hs2 := Lib.hid hs2
  replace hn := Lib.hid hn
  go_loopw [34] (fun i wr => ∃ k : Nat, k ≤ n ∧ i = .int .i64 (k : Int) ∧ Hid (FlowsIn G wr w.heap.size (flowsL (ds.take k)) ∧ Kp G w2 wr ∧ ∀ d ∈ ds.take k, outD d nm nc = false)) (fun i _ => n - (intOf i).toNat)
  case atStart => exact ⟨0, by omega, rfl, Lib.hid ⟨hF0.out, Kp.refl _ _, fun d hd => by simp at hd⟩⟩
  case round =>
    obtain ⟨k, hk, rfl, hT⟩ := hrel
    obtain ⟨hFl, hK, hno⟩ := hT.out
    by_cases hkn : k < n
    · have hki : k < ids.length := by have := hn.out; omega
      have hkd : k < ds.length := by have := hn.out; have := hdl.out; omega
      obtain ⟨g, rfl, hgG, hgc⟩ := hcell.out k hki
      have e0 := hK.cell hgc hgG
      have hPB : PB P wr gb b := (PB.live gb b).weak ((PB.live gb b).kept (F := G) hpb.out (hwK.out.trans hK) (fun j hj hp hg => hGw.out j hp.2 hg)) fun j _ hp => hp.1
      have hdk : (b.deal ids[k]).1 = ds[k] := by
        have h9 : ds[k]? = (ids.map fun id => (b.deal id).1)[k]? := by rw [hdsE.out]
        rw [List.getElem?_map, List.getElem?_eq_getElem hki, List.getElem?_eq_getElem hkd] at h9
        injection h9 with h9
        exact h9.symm
      have hcd := hdeal.out wr hPB ids[k] (hids.out _ (List.getElem_mem hki))
      rw [hdk] at hcd
      have hdok := hok.out ds[k] (List.getElem_mem hkd)
      have hdin : ds[k] ∈ ds := List.getElem_mem hkd
      have htk : ds.take (k + 1) = ds.take k ++ [ds[k]] := List.take_succ_eq_append_getElem hkd
      generalize (b.deal ids[k]).2 = bb at hcd
      generalize ids[k] = id at *
      generalize ds[k] = d at *
      clear hPB hdk hgc
      obtain ⟨a0, a16, b0, b16, sc0, sc8, bc0, bc8, s1, s2, t1, t2⟩ := hdok
      obtain ⟨a, ha⟩ : ∃ a : Nat, d.a = a := ⟨d.a.toNat, by omega⟩
      obtain ⟨bq, hbq⟩ : ∃ a : Nat, d.b = a := ⟨d.b.toNat, by omega⟩
      obtain ⟨sc, hsc⟩ : ∃ a : Nat, d.sc = a := ⟨d.sc.toNat, by omega⟩
      obtain ⟨bc, hbc⟩ : ∃ a : Nat, d.bc = a := ⟨d.bc.toNat, by omega⟩
      have hpay1 : ∀ (Q : Nat → Prop) (W : World) (F : Nat → List Int), FlowsIn Q W w.heap.size F → (∀ i, (F i).length ≤ 500) → (∀ j, W.heap.size ≤ j → Q j) →
          Calls Tryz.prog 27 #[.pointer (some ⟨w.heap.size, 0, none⟩), .int .i64 d.a, .int .i64 d.b, .int .i64 d.sc, .int .i64 d.s] W fun e w' => e = .returned (.tuple #[]) ∧ FlowsIn Q w' w.heap.size (pay1 F d.a.toNat d.b.toNat d.sc.toNat d.s) ∧ Kp Q W w' := fun Q W F hF hFl hQ => by
        rw [ha, hbq, hsc]; simp only [Int.toNat_natCast]
        exact pay_any Q w.heap.size a bq sc d.s F W hF (by omega) (by omega) (by omega) (by omega) (by omega) hFl hQ
      have hpay2 : ∀ (Q : Nat → Prop) (W : World) (F : Nat → List Int), FlowsIn Q W w.heap.size F → (∀ i, (F i).length ≤ 500) → (∀ j, W.heap.size ≤ j → Q j) →
          Calls Tryz.prog 27 #[.pointer (some ⟨w.heap.size, 0, none⟩), .int .i64 d.b, .int .i64 d.a, .int .i64 d.bc, .int .i64 d.t] W fun e w' => e = .returned (.tuple #[]) ∧ FlowsIn Q w' w.heap.size (pay1 F d.b.toNat d.a.toNat d.bc.toNat d.t) ∧ Kp Q W w' := fun Q W F hF hFl hQ => by
        rw [ha, hbq, hbc]; simp only [Int.toNat_natCast]
        exact pay_any Q w.heap.size bq a bc d.t F W hF (by omega) (by omega) (by omega) (by omega) (by omega) hFl hQ
      have hfl := flowsL_len (ds.take k)
      have hfl2 : (ds.take k).length ≤ 120 := by rw [List.length_take]; have := hdl.out; have := hn.out; omega
      have hstep : flowsL (ds.take (k + 1)) = pay1 (pay1 (flowsL (ds.take k)) d.a.toNat d.b.toNat d.sc.toNat d.s) d.b.toNat d.a.toNat d.bc.toNat d.t := by rw [htk, flowsL_app]; rfl
      unfold Dl.val at hcd
      replace hpay1 := Lib.hid hpay1
      replace hpay2 := Lib.hid hpay2
      replace hcd := Lib.hid hcd
      replace hfl := Lib.hid hfl
      replace hfl2 := Lib.hid hfl2
      replace hstep := Lib.hid hstep
      replace htk := Lib.hid htk
      replace hFl := Lib.hid hFl
      replace hK := Lib.hid hK
      replace hno := Lib.hid hno
      replace hdin := Lib.hid hdin
      replace hgG := Lib.hid hgG
      clear ha hbq hsc hbc a0 a16 b0 b16 sc0 sc8 bc0 bc8 s1 s2 t1 t2 hT
      by_cases ho : outD d nm nc = true
      · have hany : ds.any (fun d => outD d nm nc) = true := List.any_eq_true.2 ⟨d, hdin.out, ho⟩
        replace hany := Lib.hid hany
        unfold outD at ho
        rw [Bool.or_eq_true, decide_eq_true_eq, decide_eq_true_eq] at ho
        have hgoal : ∀ w', Below wr.heap.size wr w' → Below w.heap.size w w' := fun w' hb => ((hwK.out.trans hK.out).below (Nat.le_refl _) hGw.out).trans (hb.mono (hwK.out.trans hK.out).size)
        replace hgoal := Lib.hid hgoal
        by_cases h5 : (nm : Int) ≤ max d.a d.b
        · go_wp2_with (go_at_call 26; (with_reducible refine hcd.out.mono ?_); rintro e w4 ⟨rfl, hb4⟩; obtain ⟨x1, x2, x3, x4, x5, x6⟩ := boxed60 d (heap_alloc_new w4 (.cells #[.int .i64 d.id, .int .i64 d.a, .int .i64 d.b, .int .i64 d.sc, .int .i64 d.bc, .int .i64 d.s, .int .i64 d.t] 60)); replace hb4 := Lib.hid hb4)
          go_ret2
          exact ⟨hgoal.out _ (hb4.out.alloc hb4.out.size _), .inr (.inl ⟨by omega, by omega, by omega, by omega, hany.out, rfl⟩)⟩
        · have h6 : (nc : Int) ≤ max d.sc d.bc := by rcases ho with h | h; exact absurd h h5; exact h
          go_wp2_with (go_at_call 26; (with_reducible refine hcd.out.mono ?_); rintro e w4 ⟨rfl, hb4⟩; obtain ⟨x1, x2, x3, x4, x5, x6⟩ := boxed60 d (heap_alloc_new w4 (.cells #[.int .i64 d.id, .int .i64 d.a, .int .i64 d.b, .int .i64 d.sc, .int .i64 d.bc, .int .i64 d.s, .int .i64 d.t] 60)); replace hb4 := Lib.hid hb4)
          go_ret2
          exact ⟨hgoal.out _ (hb4.out.alloc hb4.out.size _), .inr (.inl ⟨by omega, by omega, by omega, by omega, hany.out, rfl⟩)⟩
      · have hno2 : ∀ d2 ∈ ds.take (k + 1), outD d2 nm nc = false := fun d2 h2 => by
          rw [htk.out] at h2
          rcases List.mem_append.1 h2 with h2 | h2
          · exact hno.out d2 h2
          · obtain rfl := List.mem_singleton.1 h2; simpa using ho
        unfold outD at ho
        rw [Bool.or_eq_true, decide_eq_true_eq, decide_eq_true_eq, not_or] at ho
        obtain ⟨h5, h6⟩ := ho
        replace hno2 := Lib.hid hno2
        go_upto_region 10 with (go_at_call 26; (with_reducible refine hcd.out.mono ?_); rintro e w4 ⟨rfl, hb4⟩; obtain ⟨x1, x2, x3, x4, x5, x6⟩ := boxed60 d (heap_alloc_new w4 (.cells #[.int .i64 d.id, .int .i64 d.a, .int .i64 d.b, .int .i64 d.sc, .int .i64 d.bc, .int .i64 d.s, .int .i64 d.t] 60)); replace hb4 := Lib.hid hb4)
        obtain ⟨o, ho⟩ : ∃ o, o = Obj.cells #[.int .i64 d.id, .int .i64 d.a, .int .i64 d.b, .int .i64 d.sc, .int .i64 d.bc, .int .i64 d.s, .int .i64 d.t] 60 := ⟨_, rfl⟩
        rw [← ho] at x1 x2 x3 x4 x5 x6 ⊢
        replace ho := Lib.hid ho
        obtain ⟨w5, hw5⟩ : ∃ w5, w5 = w4.alloc o := ⟨_, rfl⟩
        rw [← hw5] at x1 x2 x3 x4 x5 x6 ⊢
        have hb5 : Below w4.heap.size w4 w5 := by rw [hw5]; exact (Below.refl _ _).alloc (Nat.le_refl _) _
        have hs5 : w5.heap.size = w4.heap.size + 1 := by rw [hw5]; simp
        have hsz4 : w2.heap.size ≤ w4.heap.size := Nat.le_trans hK.out.size hb4.out.size
        obtain ⟨Q, hQ⟩ : ∃ Q : Nat → Prop, Q = fun j => (G j ∧ j < w4.heap.size) ∨ w5.heap.size ≤ j := ⟨_, rfl⟩
        have hF5 : FlowsIn Q w5 w.heap.size (flowsL (ds.take k)) := (((hFl.out.kept hb4.out).weak (Q := fun j => G j ∧ j < w4.heap.size) fun j hj hp => ⟨hp, hj⟩).kept hb5).weak fun j _ hp => by rw [hQ]; exact .inl hp
        have hQn : ∀ j, w5.heap.size ≤ j → Q j := fun j hj => by rw [hQ]; exact .inr hj
        have hQG : ∀ j, Q j → G j := fun j hj => by
          rw [hQ] at hj
          rcases hj with hj | hj
          · exact hj.1
          · exact hGn.out j (by omega)
        have hQx : ¬ Q w4.heap.size := by rw [hQ]; rintro (h | h) <;> omega
        have hp1 := hpay1.out Q w5 _ hF5 (fun i => by have := hfl.out i; have := hfl2.out; omega) hQn
        have hflx := pay1_len (flowsL (ds.take k)) d.a.toNat d.b.toNat d.sc.toNat d.s _ hfl.out
        have hp2 := fun W (h1 : FlowsIn Q W w.heap.size (pay1 (flowsL (ds.take k)) d.a.toNat d.b.toNat d.sc.toNat d.s)) (h2 : w5.heap.size ≤ W.heap.size) => hpay2.out Q W _ h1 (fun i => by have := hflx i; have := hfl2.out; omega) (fun j hj => hQn j (Nat.le_trans h2 hj))
        rw [← hstep.out] at hp2
        replace hp1 := Lib.hid hp1
        replace hp2 := Lib.hid hp2
        replace hw5 := Lib.hid hw5
        replace hs5 := Lib.hid hs5
        replace hsz4 := Lib.hid hsz4
        replace hQ := Lib.hid hQ
        replace hF5 := Lib.hid hF5
        replace hQn := Lib.hid hQn
        replace hQG := Lib.hid hQG
        replace hQx := Lib.hid hQx
        replace hb5 := Lib.hid hb5
        clear hflx hpay1 hpay2
        go_wp2_with (first
          | (go_at_call 27; (with_reducible refine hp1.out.mono ?_); rintro e w6 ⟨rfl, hF6, hK6⟩; have y1 := hK6.cell x1 hQx.out; have y2 := hK6.cell x2 hQx.out; have y3 := hK6.cell x3 hQx.out; have y4 := hK6.cell x4 hQx.out; have y5 := hK6.cell x5 hQx.out; have y6 := hK6.cell x6 hQx.out; have hp3 := hp2.out w6 hF6 hK6.size; replace hp3 := Lib.hid hp3; replace hF6 := Lib.hid hF6; replace hK6 := Lib.hid hK6; clear hp1)
          | (go_at_call 27; (with_reducible refine hp3.out.mono ?_); rintro e w7 ⟨rfl, hF7, hK7⟩; replace hF7 := Lib.hid hF7; replace hK7 := Lib.hid hK7))
        go_roundw
        case rel =>
          refine ⟨k + 1, by omega, by go_num, Lib.hid ⟨hF7.out.weak fun j _ hj => hQG.out j hj, ?_, hno2.out⟩⟩
          have k1 : Kp G w2 w4 := hK.out.trans (Kp.of_below hb4.out)
          have k2 : Kp G w2 w5 := k1.trans (Kp.of_below hb5.out)
          exact (k2.trans (hK6.out.mono fun j _ hj => hQG.out j hj)).trans (hK7.out.mono fun j _ hj => hQG.out j hj)
        case measure => simp [intOf]; omega
    · obtain rfl : k = n := by omega
      have hkz : ¬ (k : Int) < (k : Int) := by omega
      have hall2 : ds.take k = ds := List.take_of_length_le (by have := hdl.out; have := hn.out; omega)
      rw [hall2] at hFl hno
      have hany : ds.any (fun d => outD d nm nc) = false := by
        rw [List.any_eq_false]; intro d hd; simpa using hno d hd
      have hnets := nets_any G w.heap.size nm nc (flowsL ds) wr hFl h1 h2 h3 h4 (flowsL_amt ds hok.out) (fun i => by have := flowsL_len ds i; have := hdl.out; have := hn.out; omega)
      have hbw : Below w.heap.size w wr := (hwK.out.trans hK).below (Nat.le_refl _) hGw.out
      replace hnets := Lib.hid hnets
      replace hbw := Lib.hid hbw
      replace hany := Lib.hid hany
      clear hT hFl hK hno hcell
      go_wp2_with (go_at_call 28; (with_reducible refine hnets.out.mono ?_); rintro e w9 ⟨hb9, ⟨ho9, rfl⟩ | ⟨ho9, v9, rfl, hN9⟩⟩)
      · go_ret2
        exact ⟨hbw.out.trans (hb9.mono hbw.out.size), .inr (.inr (.inl ⟨by omega, by omega, by omega, by omega, hany.out, by simpa using ho9, rfl⟩))⟩
      · go_ret2
        exact ⟨hbw.out.trans (hb9.mono hbw.out.size), .inr (.inr (.inr ⟨by omega, by omega, by omega, by omega, hany.out, by simpa using ho9, _, rfl, by simpa using hN9⟩))⟩
end Go.Proofs.YthocnlalahknjaaGreat.Dd
namespace Go.Proofs.YthocnlalahknjaaGreat.Dd
open Go.RowKit Go.Maps
set_option linter.unusedVariables false

theorem info62 : (Tryz.prog.info? 62).map (fun i => (i.zero, i.size, i.bytes)) = some (some (.agg #[.int .i64 0, .int .i64 0, .int .i64 0, .int .i64 0]), 4, 32) := by kernel_rfl
/-- a row of the document's dues, new since w -/
structure UO (w wr : World) (u : Value) (l : List Du) : Prop where
  row : wr.ownsRow 0 62 4 u l.length (cellsU l)
  own : ∀ g, u.ownBlock = some g → w.heap.size ≤ g
  bl : Below w.heap.size w wr
theorem UO.seq {w wr : World} {u : Value} {l : List Du} (h : UO w wr u l) : USeq wr u l := by
  obtain ⟨p, cap, rfl, hc, -, hp⟩ := orow_shape h.row
  refine ⟨p, cap, rfl, hc, ?_⟩
  cases l with
  | nil => exact .inl rfl
  | cons d r =>
    obtain ⟨g, c1, cur, e1, _⟩ := orow_some h.row (by simp)
    injection e1 with e1 _ _
    subst e1
    refine .inr ⟨g, 0, rfl, (World.ownsRow.lt h.row g rfl).2, fun i hi j u hu => ?_⟩
    rw [Nat.zero_add]
    have hj : j < 4 := by
      have := (List.getElem?_eq_some_iff.1 hu).1
      rwa [Du.cs_len] at this
    exact orow_cell h.row rfl ((cellsU_at hi j hj).trans hu)
theorem boxU62 {W : World} {g : Nat} (x : Du) (h : W.heap[g]? = some (.cells x.cs.toArray 62 (0, 0))) : ∀ (j : Nat) (u : Value), x.cs[j]? = some u → W.cell? ((⟨g, 0, none⟩ : Addr).add j) = some u := fun j u hu => by
  have e : (⟨g, 0, none⟩ : Addr).add j = ⟨g, j, none⟩ := by unfold Addr.add; split <;> simp_all
  rw [e]; exact obj_cell h (by simpa using hu)

set_option maxHeartbeats 4000000 in
set_option maxRecDepth 100000 in
theorem own_any (v : Value) (l : List Du) (w : World) (h : USeq w v l) (hlen : l.length ≤ 1000000) :
    Calls Tryz.prog 17 #[v] w fun e w' => ∃ u, e = .returned u ∧ USeq w' u l ∧ Below w.heap.size w w' := by
  have h0 : UO w w (.slice none 0 0) (l.take 0) := ⟨World.ownsRow_nil _ _ _ _, (fun g hg => by simp [Value.ownBlock] at hg), Below.refl _ _⟩
  obtain ⟨p, cap, rfl, hcap, hrd⟩ := h
  obtain ⟨n, hn⟩ : ∃ n, n = l.length := ⟨_, rfl⟩
  rw [← hn]
  have hn1 : n ≤ 1000000 := by omega
  replace hrd := Lib.hid hrd
  replace h0 := Lib.hid h0
  replace hn := Lib.hid hn
  clear hcap hlen
  go_enter Tryz.func17, Tryz.ntmps17
  go_wp2_with fail
  go_loopw [3, 8] (fun u i wr => ∃ k : Nat, k ≤ n ∧ i = .int .i64 (k : Int) ∧ Hid (UO w wr u (l.take k))) (fun _ i _ => n - (intOf i).toNat)
  case atStart => exact ⟨0, by omega, rfl, h0⟩
  case round =>
    obtain ⟨k, hk, rfl, hS⟩ := hrel
    by_cases hkn : k < n
    · have hkl : k < l.length := by have := hn.out; omega
      obtain ⟨b, off, rfl, hlt, hall⟩ := hrd.out.resolve_left (by rintro rfl; simp at hkl)
      have hbl := hS.out.bl
      have e0 := (hbl.cell (p := ⟨b, off + k * 4 + 0, none⟩) hlt).trans (hall k hkl 0 _ rfl)
      have e1 := (hbl.cell (p := ⟨b, off + k * 4 + 1, none⟩) hlt).trans (hall k hkl 1 _ rfl)
      have e2 := (hbl.cell (p := ⟨b, off + k * 4 + 2, none⟩) hlt).trans (hall k hkl 2 _ rfl)
      have e3 := (hbl.cell (p := ⟨b, off + k * 4 + 3, none⟩) hlt).trans (hall k hkl 3 _ rfl)
      rw [Nat.add_zero] at e0
      have hgl : b < wr.heap.size := Nat.lt_of_lt_of_le hlt hbl.size
      have htl : (l.take k).length ≤ 1000000 := by rw [List.length_take]; have := hn.out; omega
      have hle : Hid ((l.take k).length ≤ 1000000) := Lib.hid htl
      have hyes : ∀ o o', ((wr.alloc o).alloc o').ownsRow 0 62 4 u3 (l.take k).length (cellsU (l.take k)) ∧
          (∀ v' w', w'.ownsRow 0 62 4 v' ((l.take k).length + 1) (cellsU (l.take k) ++ l[k].cs) → ((wr.alloc o).alloc o').grownBy w' u3.ownBlock → (∀ g', v'.ownBlock = some g' → u3.ownBlock = some g' ∨ wr.heap.size + 1 + 1 ≤ g') → UO w w' v' (l.take (k + 1))) := fun o o' => by
        have r1 := orow_kept (w' := wr.alloc o) hS.out.row fun g' hg' => Below.heap_alloc _ _ _ (World.ownsRow.lt hS.out.row g' hg').2
        have r2 := orow_kept (w' := (wr.alloc o).alloc o') r1 fun g' hg' => Below.heap_alloc _ _ _ (World.ownsRow.lt r1 g' hg').2
        refine ⟨r2, fun v' w' h1 h2 h3 => ⟨?_, fun g' hg' => ?_, below_grown ((hbl.alloc hbl.size o).alloc (by have := hbl.size; simp; omega) o') h2 hS.out.own (Nat.le_refl _)⟩⟩
        · rw [List.take_succ_eq_append_getElem hkl, cellsU_app, List.length_append]; exact h1
        · rcases h3 g' hg' with h4 | h4
          · exact hS.out.own g' h4
          · have := hS.out.bl.size; omega
      have hsz := Lib.hid hS.out.bl.size
      clear hall htl
      obtain ⟨T1, hT1⟩ : ∃ T1, T1 = l.take k := ⟨_, rfl⟩
      obtain ⟨T2, hT2⟩ : ∃ T2, T2 = l.take (k + 1) := ⟨_, rfl⟩
      rw [← hT1] at hyes hle
      rw [← hT2] at hyes
      replace hT1 := Lib.hid hT1
      replace hT2 := Lib.hid hT2
      generalize l[k] = x at *
      have hnewC : ∀ (j : Nat) (u : Value), x.cs[j]? = some u → ((wr.alloc (.cells x.cs.toArray 39)).alloc (.cells x.cs.toArray 62)).cell? ((⟨wr.heap.size + 1, 0, none⟩ : Addr).add j) = some u := boxU62 x (new_two wr _ _)
      have h1c := x.cs_one
      replace hnewC := Lib.hid hnewC
      replace h1c := Lib.hid h1c
      replace hyes := Lib.hid hyes
      clear hbl
      go_wp2_with (at_builtin; refine wpList_app1 42 62 4 32 _ Tryz.underlying42 info62 (by rfl) (by omega) (by omega) rfl _ _ rfl rfl _ _ _ rfl (hyes.out _ _).1 ⟨wr.heap.size + 1, 0, none⟩ x.cs rfl rfl hnewC.out h1c.out (by have := hle.out; omega) ?_)
      intro v' w' hr' hg' hv'
      go_wp2_with fail
      go_roundw
      case rel => exact ⟨k + 1, by omega, by go_num, Lib.hid (by rw [← hT2.out]; exact (hyes.out _ _).2 _ _ hr' hg' hv')⟩
      case measure => simp [intOf]; omega
    · obtain rfl : k = n := by omega
      have hkz : ¬ (k : Int) < (k : Int) := by omega
      have hS2 : UO w wr u3 l := by have h1 := hS.out; have h2 := hn.out; rw [h2, List.take_length] at h1; exact h1
      replace hS2 := Lib.hid hS2
      clear hS
      go_wp2_with fail
      go_ret
      exact ⟨_, rfl, hS2.out.seq, hS2.out.bl⟩

theorem eq62a : Tryz.prog.underlying 62 = some (.struct (Tryz.prog.fieldsOf 62)) := by kernel_rfl
theorem eq62b : Tryz.prog.stoodInHeld 62 = false := by kernel_rfl
theorem eq62d : Tryz.prog.fieldsOf 62 = #[⟨"Member", 3, 0, false, "", "", 0⟩, ⟨"Cur", 3, 1, false, "", "", 8⟩, ⟨"At", 3, 2, false, "", "", 16⟩, ⟨"Amount", 2, 3, false, "", "", 24⟩] := by kernel_rfl
def Du.same (d e : Du) : Bool := d.m == e.m && (d.c == e.c && (d.t == e.t && d.n == e.n))
theorem Du.same_iff {d e : Du} : d.same e = true ↔ d = e := by
  obtain ⟨a1, a2, a3, a4⟩ := d
  obtain ⟨b1, b2, b3, b4⟩ := e
  unfold Du.same
  simp
theorem neq_due (d e : Du) (w : World) : (binOp .neq 62 d.val e.val).run Tryz.prog w = .ok (.bool (!d.same e)) w := by
  have e0 := Tryz.underlying3
  have e1 := Tryz.underlying2
  unfold Du.val Du.same
  rw [run_neq_struct, run_equalIn_agg w 9999 62 _ _ eq62a eq62b, eq62d]
  simp [Op.eqFields, go_sem, e0, e1]
  (repeat' split) <;> simp_all
theorem drewN_drewN (w : World) (m k : Nat) : (w.drewN m).drewN k = w.drewN (m + k) := by simp [World.drewN, Nat.add_assoc]
set_option maxHeartbeats 2000000 in
set_option maxRecDepth 100000 in
theorem sameU_any (u v : Value) (a b : List Du) (w : World) (ha : USeq w u a) (hb : USeq w v b) (hla : a.length ≤ 1000000) (hlb : b.length ≤ 1000000) :
    Calls Tryz.prog 18 #[u, v] w fun e w' => e = .returned (.bool (decide (a = b))) ∧ ∃ n, w' = w.drewN n := by
  obtain ⟨p, ca, rfl, -, hra⟩ := ha
  obtain ⟨q, cb, rfl, -, hrb⟩ := hb
  obtain ⟨R, hR⟩ : ∃ R, R = decide (a = b) := ⟨_, rfl⟩
  rw [← hR]
  by_cases hl : a.length = b.length
  · have hz : (a.length : Int) = (b.length : Int) := by omega
    have hfin : (∀ k, k < a.length → a.getD k default = b.getD k default) → R = true := fun h => by
      rw [hR, decide_eq_true_iff]
      refine List.ext_getElem hl fun k h1 h2 => ?_
      have := h k h1
      simpa [List.getD_eq_getElem?_getD, List.getElem?_eq_getElem h1, List.getElem?_eq_getElem h2] using this
    have hno : ∀ k, k < a.length → ¬ a.getD k default = b.getD k default → R = false := fun k hk hne => by
      rw [hR, decide_eq_false_iff_not]; intro e; exact hne (by rw [e])
    have hrow : ∀ k, k < a.length → ∃ g o h o2, p = some ⟨g, o, none⟩ ∧ q = some ⟨h, o2, none⟩ ∧ (∀ j t, (a.getD k default).cs[j]? = some t → w.cell? ⟨g, o + k * 4 + j, none⟩ = some t) ∧ (∀ j t, (b.getD k default).cs[j]? = some t → w.cell? ⟨h, o2 + k * 4 + j, none⟩ = some t) := fun k hk => by
      obtain ⟨g, o, rfl, _, h1⟩ := hra.resolve_left (by rintro rfl; simp at hk)
      have hkb : k < b.length := by rw [← hl]; exact hk
      obtain ⟨h, o2, rfl, _, h2⟩ := hrb.resolve_left (by rintro rfl; simp at hkb)
      refine ⟨g, o, h, o2, rfl, rfl, fun j t ht => ?_, fun j t ht => ?_⟩
      · rw [List.getD_eq_getElem?_getD, List.getElem?_eq_getElem hk] at ht; exact h1 k hk j t ht
      · rw [List.getD_eq_getElem?_getD, List.getElem?_eq_getElem hkb] at ht; exact h2 k hkb j t ht
    replace hrow := Lib.hid hrow
    replace hfin := Lib.hid hfin
    replace hno := Lib.hid hno
    replace hR := Lib.hid hR
    clear hra hrb
    rw [← hl]
    generalize hn : a.length = n at *
    clear hz hl hn hlb
    go_enter Tryz.func18, Tryz.ntmps18
    go_wp2_with fail
    go_loopw [5] (fun i wr => ∃ k : Nat, k ≤ n ∧ i = .int .i64 (k : Int) ∧ Hid ((∀ j, j < k → a.getD j default = b.getD j default) ∧ ∃ m, wr = w.drewN m)) (fun i _ => n - (intOf i).toNat)
    case atStart => exact ⟨0, by omega, rfl, Lib.hid ⟨fun j hj => by omega, 0, rfl⟩⟩
    case round =>
      obtain ⟨k, hk, rfl, hS⟩ := hrel
      by_cases hkn : k < n
      · obtain ⟨g, o, h, o2, rfl, rfl, c1, c2⟩ := hrow.out k hkn
        obtain ⟨hS1, m, rfl⟩ := hS.out
        replace hS1 := Lib.hid hS1
        have hno2 := hno.out k hkn
        have hok2 : a.getD k default = b.getD k default → ∀ j, j < k + 1 → a.getD j default = b.getD j default := fun e j hj => by
          by_cases hjk : j = k
          · subst hjk; exact e
          · exact hS1.out j (by omega)
        clear hS
        generalize a.getD k default = x at *
        generalize b.getD k default = y at *
        have hsm := fun W => neq_due x y W
        have hsmi := @Du.same_iff x y
        have a0 := c1 0 _ rfl
        have a1 := c1 1 _ rfl
        have a2 := c1 2 _ rfl
        have a3 := c1 3 _ rfl
        have b0 := c2 0 _ rfl
        have b1 := c2 1 _ rfl
        have b2 := c2 2 _ rfl
        have b3 := c2 3 _ rfl
        rw [Nat.add_zero] at a0 b0
        unfold Du.val at hsm
        replace hok2 := Lib.hid hok2
        replace hno2 := Lib.hid hno2
        clear c1 c2
        cases hq : x.same y with
        | true =>
          rw [hq] at hsm
          have hxy := hsmi.1 hq
          replace hxy := Lib.hid hxy
          replace hsmi := True.intro
          go_upto_region 6 with fail
          go_quiet (fail)
          go_wp2_with fail
          go_roundw
          case rel => exact ⟨k + 1, by omega, by go_num, Lib.hid ⟨hok2.out hxy.out, _, rfl⟩⟩
          case measure => simp [intOf]; omega
        | false =>
          rw [hq] at hsm
          have hRf : R = false := hno2.out fun e => by rw [hsmi.2 e] at hq; cases hq
          replace hRf := Lib.hid hRf
          replace hsmi := True.intro
          go_upto_region 6 with fail
          go_quiet (fail)
          go_wp2_with fail
          go_ret
          exact ⟨by rw [hRf.out]; rfl, _, drewN_drewN _ _ _⟩
      · obtain rfl : k = n := by omega
        have hkz : ¬ (k : Int) < (k : Int) := by omega
        obtain ⟨hS1, m, rfl⟩ := hS.out
        have hRt : R = true := hfin.out hS1
        replace hRt := Lib.hid hRt
        clear hS hS1
        go_wp2_with fail
        go_ret
        exact ⟨by rw [hRt.out]; rfl, _, rfl⟩
  · have hRf : R = false := by rw [hR, decide_eq_false_iff_not]; intro e; exact hl (by rw [e])
    have hz : ¬ (a.length : Int) = (b.length : Int) := by omega
    have hzb : ((a.length : Int) != (b.length : Int)) = true := by simpa using hz
    replace hRf := Lib.hid hRf
    clear hra hrb
    generalize a.length = n at *
    generalize b.length = m at *
    go_enter Tryz.func18, Tryz.ntmps18
    go_wp2_with fail
    go_ret
    exact ⟨by rw [hRf.out]; rfl, 0, rfl⟩
end Go.Proofs.YthocnlalahknjaaGreat.Dd
