/- Of each currency all nets are together 0; what is known of those matched; rows of amounts that grow. -/
import Derived.Test.YthocnlalahknjaaGreatQVA
namespace Go.Proofs.YthocnlalahknjaaGreat.Dd
open Go.RowKit Go.Maps
set_option linter.unusedVariables false

theorem deal_at {b : Bk} {id : Int} (h : id ∈ b.all 2) : ∃ e ∈ b.l, (b.deal id).1 = e.d := by
  obtain ⟨e, he, _, hid⟩ := all_mem.1 h
  unfold Bk.deal
  cases ha : atL b.l id with
  | none =>
    exfalso
    have key : ∀ l : List En, e ∈ l → atL l id ≠ none := by
      intro l
      induction l with
      | nil => intro h; cases h
      | cons x r ih =>
        intro h
        unfold atL
        split
        · simp
        · rename_i hx
          rcases List.mem_cons.1 h with rfl | h
          · exact absurd hid hx
          · simp [ih h]
    exact key _ he ha
  | some i =>
    obtain ⟨hi, _⟩ := atL_some ha
    exact ⟨b.l[i], List.getElem_mem hi, by show (b.l.getD i default).d = _; rw [List.getD_eq_getElem?_getD, List.getElem?_eq_getElem hi]; rfl⟩
theorem matched_ok {b : Bk} (h : b.Ok) (hm : b.mem = 16) (hc : b.cur = 8) : ∀ d ∈ matchedD b, DlOk d := fun d hd => by
  unfold matchedD at hd
  obtain ⟨id, hid, rfl⟩ := List.mem_map.1 hd
  obtain ⟨e, he, hde⟩ := deal_at hid
  rw [hde]
  obtain ⟨h1, h2, _⟩ := h.may e he
  rw [mayB_iff, hm, hc] at h1
  have hs := h2.s
  have ht := h2.t
  unfold In64 at hs ht
  unfold DlOk
  omega
/-- what all members get of a currency, less what they pay -/
def tot (F : Nat → List Int) (c : Nat) : Int := sumL ((List.range 16).map fun m => sumL (F (m * 8 + c)))
theorem sum_range_upd (g : Nat → Int) (a : Nat) (x : Int) : ∀ n, sumL ((List.range n).map fun m => g m + if m = a then x else 0) = sumL ((List.range n).map g) + if a < n then x else 0
  | 0 => by simp [sumL]
  | n + 1 => by
    rw [List.range_succ, List.map_append, List.map_append, sumL_append, sumL_append, sum_range_upd g a x n]
    show _ + ((g n + if n = a then x else 0) + 0) = _ + (g n + 0) + _
    by_cases h1 : a < n
    · rw [if_pos h1, if_neg (by omega), if_pos (by omega)]; omega
    · by_cases h2 : n = a
      · rw [if_neg h1, if_pos h2, if_pos (by omega)]; omega
      · rw [if_neg h1, if_neg h2, if_neg (by omega)]; omega
theorem tot_upd (F : Nat → List Int) (a c' c : Nat) (x : Int) (ha : a < 16) (hc' : c' < 8) (hc : c < 8) : tot (updF F (a * 8 + c') (F (a * 8 + c') ++ [x])) c = tot F c + if c' = c then x else 0 := by
  unfold tot
  have e : (fun m => sumL (updF F (a * 8 + c') (F (a * 8 + c') ++ [x]) (m * 8 + c))) = fun m => sumL (F (m * 8 + c)) + if m = a then (if c' = c then x else 0) else 0 := by
    funext m
    unfold updF
    by_cases h : m * 8 + c = a * 8 + c'
    · have h1 : m = a := by omega
      have h2 : c' = c := by omega
      subst h1; subst h2
      rw [if_pos rfl, if_pos rfl, if_pos rfl, sumL_append]
      show _ + (x + 0) = _
      omega
    · rw [if_neg h]
      by_cases h1 : m = a
      · rw [if_pos h1, if_neg (by omega)]; omega
      · rw [if_neg h1]; omega
  rw [e, sum_range_upd (fun m => sumL (F (m * 8 + c))) a _ 16, if_pos ha]
theorem tot_pay1 (F : Nat → List Int) (a b c' c : Nat) (x : Int) (ha : a < 16) (hb : b < 16) (hc' : c' < 8) (hc : c < 8) : tot (pay1 F a b c' x) c = tot F c := by
  unfold pay1
  rw [tot_upd _ b c' c x hb hc' hc, tot_upd F a c' c (-x) ha hc' hc]
  split <;> omega
theorem tot_zero (c : Nat) (hc : c < 8) : ∀ (ds : List Dl), (∀ d ∈ ds, DlOk d) → tot (flowsL ds) c = 0 := by
  have key : ∀ (ds : List Dl) (F : Nat → List Int), (∀ d ∈ ds, DlOk d) → tot (ds.foldl payD F) c = tot F c := by
    intro ds
    induction ds with
    | nil => intro F _; rfl
    | cons d r ih =>
      intro F hd
      obtain ⟨a0, a1, b0, b1, c0, c1, e0, e1, _⟩ := hd d (by simp)
      rw [List.foldl_cons, ih _ fun e he => hd e (by simp [he])]
      unfold payD
      rw [tot_pay1 _ _ _ _ _ _ (by omega) (by omega) (by omega) hc, tot_pay1 _ _ _ _ _ _ (by omega) (by omega) (by omega) hc]
  intro ds hd
  unfold flowsL
  rw [key ds _ hd]
  rfl
/-- a row of amounts, new since w -/
structure IR (w wr : World) (u : Value) (l : List Int) : Prop where
  row : wr.ownsRow 0 2 1 u l.length (l.map (Value.int .i64))
  own : ∀ g, u.ownBlock = some g → w.heap.size ≤ g
  bl : Below w.heap.size w wr
theorem IR.nil (w : World) : IR w w (.slice none 0 0) [] := ⟨World.ownsRow_nil _ _ _ _, (fun g hg => by simp [Value.ownBlock] at hg), Below.refl _ _⟩
theorem IR.base {w w2 wr : World} {u : Value} {l : List Int} (h : IR w2 wr u l) (hb : Below w.heap.size w w2) : IR w wr u l :=
  ⟨h.row, fun g hg => Nat.le_trans hb.size (h.own g hg), hb.trans (h.bl.mono hb.size)⟩
theorem IR.below {w wr w' : World} {u : Value} {l : List Int} (h : IR w wr u l) (hb : Below wr.heap.size wr w') : IR w w' u l :=
  ⟨orow_kept h.row fun g hg => hb.block g (World.ownsRow.lt h.row g hg).2, h.own, h.bl.trans (hb.mono h.bl.size)⟩
/-- what an append of one more leaves -/
theorem IR.app {w wr w' : World} {u v' : Value} {l : List Int} {x : Int} {o : Obj} (h : IR w wr u l) (h1 : w'.ownsRow 0 2 1 v' (l.length + 1) (l.map (Value.int .i64) ++ [.int .i64 x])) (h2 : (wr.alloc o).grownBy w' u.ownBlock)
    (h3 : ∀ g', v'.ownBlock = some g' → u.ownBlock = some g' ∨ wr.heap.size + 1 ≤ g') : IR w w' v' (l ++ [x]) := by
  refine ⟨?_, fun g' hg' => ?_, below_grown (h.bl.alloc h.bl.size o) h2 h.own (Nat.le_refl _)⟩
  · rw [List.length_append, List.map_append]; exact h1
  · rcases h3 g' hg' with h4 | h4
    · exact h.own g' h4
    · have := h.bl.size; omega
theorem IR.pre {w wr : World} {u : Value} {l : List Int} (h : IR w wr u l) (o : Obj) : (wr.alloc o).ownsRow 0 2 1 u l.length (l.map (Value.int .i64)) := orow_kept h.row fun g' hg' => Below.heap_alloc _ _ _ (World.ownsRow.lt h.row g' hg').2
theorem box2 {W : World} {g : Nat} (x : Int) (h : W.heap[g]? = some (.cells #[.int .i64 x] 2 (0, 0))) : ∀ (j : Nat) (u : Value), [Value.int .i64 x][j]? = some u → W.cell? ((⟨g, 0, none⟩ : Addr).add j) = some u := fun j u hu => by
  match j with
  | 0 => injection hu with hu; rw [← hu]; exact obj_cell h rfl
  | j + 1 => simp at hu

/-- Net of a book of the law's -/
theorem net_book {G : Nat → Prop} {w : World} {gb rb : Nat} {ds : List Dl} {c : Bk} (h : Apart G (BX gb (subS bkE ds)) (RX' rb c) w) (hin : ∀ d ∈ ds, d.In) (hl : ds.length ≤ 60) (nm nc : Int) :
    Calls Tryz.prog 9 #[.pointer (some ⟨gb, 0, none⟩), .int .i64 nm, .int .i64 nc] w fun e w' => Below w.heap.size w w' ∧ NetOut (matchedD (subS bkE ds)) nm nc w' e := by
  by_cases ha : nm < 1 ∨ 16 < nm ∨ nc < 1 ∨ 8 < nc
  · refine (net_arg gb nm nc w ha).mono ?_
    rintro e w' ⟨rfl, rfl⟩
    exact ⟨Below.refl _ _, .inl ⟨ha, rfl⟩⟩
  · obtain ⟨n, rfl⟩ : ∃ n : Nat, nm = n := ⟨nm.toNat, by omega⟩
    obtain ⟨m, rfl⟩ : ∃ n : Nat, nc = n := ⟨nc.toNat, by omega⟩
    obtain ⟨PF, _, hP, _⟩ := h
    have hok := subS_ok ds bkE bkE_ok hin
    have hg := subS_grow ds bkE
    have hg0 : bkE.l.length = 0 := rfl
    exact net_main hP n m (by omega) (by omega) (by omega) (by omega) (by omega) hok.nodup2 (fun id hid => all_in hok hid) (by rw [all_len]; have := List.length_filter_le (fun e : En => decide (e.st = 2)) (subS bkE ds).l; omega) (matched_ok hok hg.2.2.1 hg.2.2.2)
end Go.Proofs.YthocnlalahknjaaGreat.Dd
