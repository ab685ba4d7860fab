/- What a book keeps to stays so, whatever is done. No Go text.
  What stays of a book, whatever is done with it; what All tells of a book, state by state. No Go text. -/
import Derived.Test.YthocnlalahknjaaGreatQDa
namespace Go.Proofs.YthocnlalahknjaaGreat.Dd

def nthL (l : List En) : List Int := (l.filter fun e => decide (0 < e.nth)).map (·.nth)
theorem nthL_eq (l : List En) : nthL l = (l.map (·.nth)).filter fun x => decide (0 < x) := by
  unfold nthL; rw [List.filter_map]; rfl
theorem nthL_set {l : List En} {i : Nat} (h : i < l.length) (e : En) (he : e.nth = l[i].nth) : nthL (l.set i e) = nthL l := by
  rw [nthL_eq, nthL_eq, List.map_set, he]
  have : (l.map (·.nth)).set i l[i].nth = l.map (·.nth) := by
    have h2 : l[i].nth = (l.map (·.nth))[i]'(by simpa using h) := by rw [List.getElem_map]
    rw [h2]; exact List.set_getElem_self _
  rw [this]
theorem filt_set : ∀ (L : List Int) (i : Nat) (v : Int), (h : i < L.length) → ¬ 0 < L[i] → 0 < v → ((L.set i v).filter fun x => decide (0 < x)).Perm (v :: L.filter fun x => decide (0 < x))
  | [], i, v, h, _, _ => by simp at h
  | x :: r, 0, v, h, h0, hv => by
    have h0' : ¬ 0 < x := h0
    rw [List.set_cons_zero, List.filter_cons_of_pos (by simpa using hv), List.filter_cons_of_neg (by simpa using h0')]
  | x :: r, i + 1, v, h, h0, hv => by
    have ih := filt_set r i v (by simpa using h) (by simpa using h0) hv
    rw [List.set_cons_succ]
    by_cases hx : 0 < x
    · rw [List.filter_cons_of_pos (by simpa using hx), List.filter_cons_of_pos (by simpa using hx)]
      exact (ih.cons x).trans (List.Perm.swap v x _)
    · rw [List.filter_cons_of_neg (by simpa using hx), List.filter_cons_of_neg (by simpa using hx)]
      exact ih
theorem nthL_match {l : List En} {i : Nat} (h : i < l.length) (e : En) (h0 : ¬ 0 < l[i].nth) (hv : 0 < e.nth) : (nthL (l.set i e)).Perm (e.nth :: nthL l) := by
  rw [nthL_eq, nthL_eq, List.map_set]
  exact filt_set _ _ _ (by simpa using h) (by simpa using h0) hv
theorem ids_set {l : List En} {i : Nat} (h : i < l.length) (e : En) (he : e.d.id = l[i].d.id) : (l.set i e).map (·.d.id) = l.map (·.d.id) := by
  rw [List.map_set, he]
  have h2 : l[i].d.id = (l.map (·.d.id))[i]'(by simpa using h) := by rw [List.getElem_map]
  rw [h2]; exact List.set_getElem_self _

/-- one entry is as it must be -/
def En.Good (e : En) (mem cur : Int) (many : Nat) : Prop := mayB e.d mem cur = true ∧ e.d.In ∧ e.may = true ∧ 0 ≤ e.ask ∧ 0 ≤ e.nth ∧ e.nth ≤ (many : Int)
theorem En.may_1 {e : En} (h : e.may = true) (hs : e.st = 1) : ¬ 0 < e.nth ∧ e.ask = 0 := by
  unfold En.may at h; rw [if_pos hs] at h; simpa using h
theorem En.may_2 {e : En} (h : e.may = true) (hs : e.st = 2 ∨ e.st = 3) : 0 < e.nth ∧ e.ask < 3 := by
  unfold En.may at h; rw [if_neg (by omega), if_pos hs] at h; simpa using h
theorem En.may_st {e : En} (h : e.may = true) : 1 ≤ e.st ∧ e.st ≤ 4 := by
  unfold En.may at h
  split at h
  · omega
  · split at h
    · omega
    · split at h
      · omega
      · cases h
theorem En.may_ask {e : En} (h : e.may = true) : e.ask ≤ 3 := by
  unfold En.may at h
  split at h
  · simp at h; omega
  · split at h
    · simp at h; omega
    · split at h
      · simp at h; omega
      · cases h
theorem En.may_4 {e : En} (hs : e.st = 4) (h : e.ask = 0 ∨ (0 < e.nth ∧ e.ask ≤ 3)) : e.may = true := by
  unfold En.may
  rw [if_neg (by omega), if_neg (by omega), if_pos hs]
  simpa using h
/-- an entry that takes another's place -/
theorem Bk.Ok.put {b : Bk} (h : b.Ok) {i : Nat} (hi : i < b.l.length) (e : En) (hid : e.d.id = b.l[i].d.id) (hn : e.nth = b.l[i].nth) (he : e.Good b.mem b.cur b.many) : Bk.Ok { b with l := b.l.set i e } := by
  refine ⟨h.mem, h.cur, by simpa using h.len, by rw [ids_set hi e hid]; exact h.ids, fun x hx => ?_, by have := nthL_set hi e hn; unfold nthL at this; rw [this]; exact h.nth⟩
  rcases List.mem_or_eq_of_mem_set hx with hx | rfl
  · exact h.may x hx
  · exact he
theorem Bk.Ok.good {b : Bk} (h : b.Ok) {i : Nat} (hi : i < b.l.length) : (b.l[i]).Good b.mem b.cur b.many := h.may _ (List.getElem_mem hi)
theorem getD_is {l : List En} {i : Nat} (h : i < l.length) : l.getD i default = l[i] := by rw [List.getD_eq_getElem?_getD, List.getElem?_eq_getElem h]; rfl
theorem up_succ (n : Nat) : ((List.range (n + 1)).map fun (k : Nat) => (k : Int) + 1) = ((List.range n).map fun (k : Nat) => (k : Int) + 1) ++ [(n : Int) + 1] := by
  rw [List.range_succ, List.map_append]; rfl
theorem sub_ok {b : Bk} (h : b.Ok) (d : Dl) (hd : d.In) : (b.sub d).2.Ok := by
  unfold Bk.sub
  split
  · exact h
  · rename_i hm
    have hm' : mayB d b.mem b.cur = true := by simpa using hm
    rcases ha : atL b.l d.id with _ | i
    · dsimp only
      split
      · exact h
      · rename_i hl
        refine ⟨h.mem, h.cur, by simp; omega, ?_, fun x hx => ?_, ?_⟩
        · rw [List.map_append, List.nodup_append]
          refine ⟨h.ids, by simp, fun a ha' c hc e => ?_⟩
          obtain ⟨x, hx, rfl⟩ := List.mem_map.1 ha'
          simp at hc
          exact atL_none ha x hx (by rw [e, hc])
        · rcases List.mem_append.1 hx with hx | hx
          · exact h.may x hx
          · simp at hx
            subst hx
            exact ⟨hm', hd, rfl, by simp, by simp, by simp⟩
        · rw [List.filter_append, List.map_append]
          simpa using h.nth
    · obtain ⟨hi, hie⟩ := atL_some ha
      dsimp only
      rw [getD_is hi]
      split
      · exact h
      · rename_i h1
        split
        · exact h
        · have hg := h.good hi
          have hs1 : (b.l[i]).st = 1 := by omega
          obtain ⟨h0, ha0⟩ := En.may_1 hg.2.2.1 hs1
          refine ⟨h.mem, h.cur, by simpa using h.len, by show ((b.l.set i _).map _).Nodup; rw [ids_set hi { b.l[i] with st := 2, nth := (b.many : Int) + 1 } rfl]; exact h.ids, fun x hx => ?_, ?_⟩
          · rcases List.mem_or_eq_of_mem_set hx with hx | rfl
            · obtain ⟨a1, a2, a3, a4, a5, a6⟩ := h.may x hx
              exact ⟨a1, a2, a3, a4, a5, by dsimp only; omega⟩
            · refine ⟨hg.1, hg.2.1, ?_, hg.2.2.2.1, by dsimp only; omega, by dsimp only; omega⟩
              unfold En.may
              dsimp only
              rw [if_neg (by omega), if_pos (.inl rfl)]
              simp [ha0]
          · have hp := nthL_match hi { b.l[i] with st := 2, nth := (b.many : Int) + 1 } h0 (by dsimp only; omega)
            rw [up_succ]
            exact hp.trans ((h.nth.cons _).trans (List.perm_append_singleton _ _).symm)
theorem En.asks_cases (e : En) {side : Int} (hs : side = 1 ∨ side = 2) : (e.st = 1 ∧ e.asks side = { e with st := 4 }) ∨ (e.st ≠ 1 ∧ e.ask = 0 ∧ e.asks side = { e with ask := side }) ∨ (e.st ≠ 1 ∧ e.ask ≠ 0 ∧ e.asks side = { e with ask := 3, st := 4 }) := by
  unfold En.asks
  by_cases h1 : e.st = 1
  · exact .inl ⟨h1, by rw [if_pos h1]⟩
  · by_cases h2 : e.ask = 0
    · exact .inr (.inl ⟨h1, h2, by rw [if_neg h1, if_pos h2]; dsimp only; rw [if_neg (by omega)]⟩)
    · exact .inr (.inr ⟨h1, h2, by rw [if_neg h1, if_neg h2]; dsimp only; rw [if_pos rfl]⟩)
theorem res_ok {b : Bk} (h : b.Ok) (m id : Int) : (b.res m id).2.Ok := by
  unfold Bk.res
  rcases ha : atL b.l id with _ | i
  · exact h
  · obtain ⟨hi, hie⟩ := atL_some ha
    dsimp only
    rw [getD_is hi]
    split
    · exact h
    · split
      · exact h
      · split
        · exact h
        · rename_i h0 h1 h2
          have hg := h.good hi
          have hsd : (b.l[i]).side m = 1 ∨ (b.l[i]).side m = 2 := by unfold En.side at h0 ⊢; split at h0 <;> (try split at h0) <;> simp_all
          rcases En.asks_cases (b.l[i]) hsd with ⟨hs1, e⟩ | ⟨hs1, ha0, e⟩ | ⟨hs1, ha0, e⟩
          · rw [e]
            obtain ⟨_, ha0⟩ := En.may_1 hg.2.2.1 hs1
            exact h.put hi _ rfl rfl ⟨hg.1, hg.2.1, En.may_4 rfl (.inl ha0), hg.2.2.2⟩
          · rw [e]
            have hop : (b.l[i]).open = true := by simpa using h1
            have hs2 : (b.l[i]).st = 2 := by unfold En.open at hop; simp at hop; omega
            obtain ⟨hn, hk⟩ := En.may_2 hg.2.2.1 (.inl hs2)
            refine h.put hi _ rfl rfl ⟨hg.1, hg.2.1, ?_, by dsimp only; omega, hg.2.2.2.2⟩
            unfold En.may
            dsimp only
            rw [if_neg hs1, if_pos (.inl hs2)]
            simp
            omega
          · rw [e]
            have hop : (b.l[i]).open = true := by simpa using h1
            have hs2 : (b.l[i]).st = 2 := by unfold En.open at hop; simp at hop; omega
            obtain ⟨hn, hk⟩ := En.may_2 hg.2.2.1 (.inl hs2)
            exact h.put hi _ rfl rfl ⟨hg.1, hg.2.1, En.may_4 rfl (.inr ⟨hn, by dsimp only; omega⟩), by dsimp only; omega, hg.2.2.2.2⟩
theorem set_ok {b : Bk} (h : b.Ok) (id : Int) : (b.set id).2.Ok := by
  unfold Bk.set
  rcases ha : atL b.l id with _ | i
  · exact h
  · obtain ⟨hi, hie⟩ := atL_some ha
    dsimp only
    rw [getD_is hi]
    split
    · exact h
    · rename_i h0
      have hg := h.good hi
      have hs2 : (b.l[i]).st = 2 := by omega
      obtain ⟨hn, hk⟩ := En.may_2 hg.2.2.1 (.inl hs2)
      refine h.put hi _ rfl rfl ⟨hg.1, hg.2.1, ?_, hg.2.2.2⟩
      unfold En.may
      dsimp only
      rw [if_neg (by omega), if_pos (.inr rfl)]
      simp; omega
theorem rem_ok {b : Bk} (h : b.Ok) (m : Int) : (b.rem m).2.Ok := by
  have hd : ∀ e : En, (e.rem m).d = e.d := fun e => by unfold En.rem; split <;> rfl
  have hn : ∀ e : En, (e.rem m).nth = e.nth := fun e => by unfold En.rem; split <;> rfl
  have e1 : ((b.l.map (·.rem m)).map (·.d.id)) = b.l.map (·.d.id) := by rw [List.map_map]; congr 1; funext e; simp [hd]
  have e2 : nthL (b.l.map (·.rem m)) = nthL b.l := by
    rw [nthL_eq, nthL_eq, List.map_map]; congr 1
    have : ((fun x : En => x.nth) ∘ fun x : En => x.rem m) = fun x : En => x.nth := by funext e; simp [hn]
    rw [this]
  refine ⟨h.mem, h.cur, by show (b.l.map _).length ≤ 200; rw [List.length_map]; exact h.len, by show ((b.l.map _).map _).Nodup; rw [e1]; exact h.ids, fun x hx => ?_, by
    show (nthL (b.l.map (·.rem m))).Perm _
    rw [e2]; exact h.nth⟩
  obtain ⟨y, hy, rfl⟩ := List.mem_map.1 (show x ∈ b.l.map (·.rem m) from hx)
  have hg := h.may y hy
  unfold En.rem
  split
  · rename_i hh
    refine ⟨hg.1, hg.2.1, ?_, hg.2.2.2⟩
    have hop : y.open = true := by unfold En.hit at hh; simp at hh; exact hh.1
    have : y.st = 1 ∨ y.st = 2 := by unfold En.open at hop; simpa using hop
    rcases this with h1 | h1
    · exact En.may_4 rfl (.inl (En.may_1 hg.2.2.1 h1).2)
    · obtain ⟨a, c⟩ := En.may_2 hg.2.2.1 (.inl h1)
      exact En.may_4 rfl (.inr ⟨a, by dsimp only; omega⟩)
  · exact hg
theorem up_nodup (n : Nat) : ((List.range n).map fun (k : Nat) => (k : Int) + 1).Nodup := by
  rw [List.nodup_iff_pairwise_ne, List.pairwise_map]
  exact List.nodup_range.imp fun h e => h (by omega)
theorem Bk.Ok.many {b : Bk} (h : b.Ok) : b.many = (nthL b.l).length ∧ b.many ≤ 200 := by
  have h1 := h.nth.length_eq
  rw [List.length_map, List.length_map, List.length_range] at h1
  have h2 : (nthL b.l).length ≤ b.l.length := by unfold nthL; rw [List.length_map]; exact List.length_filter_le _ _
  have h3 := h.len
  unfold nthL at *
  rw [List.length_map] at *
  omega
theorem Bk.Ok.nodup2 {b : Bk} (h : b.Ok) : ((b.l.filter fun e => decide (e.st = 2)).map (·.nth)).Nodup := by
  have h1 : (nthL b.l).Nodup := h.nth.nodup_iff.2 (up_nodup _)
  refine List.Nodup.sublist ?_ h1
  unfold nthL
  refine List.Sublist.map _ ?_
  have : b.l.filter (fun e => decide (e.st = 2)) = (b.l.filter fun e => decide (0 < e.nth)).filter fun e => decide (e.st = 2) := by
    rw [List.filter_filter]
    refine List.filter_congr fun x hx => ?_
    by_cases hs : x.st = 2
    · have := (En.may_2 (h.may x hx).2.2.1 (.inl hs)).1
      simp [hs, this]
    · simp [hs]
  rw [this]
  exact List.filter_sublist
theorem new_ok {mem cur : Int} (h1 : 1 ≤ mem ∧ mem ≤ 16) (h2 : 1 ≤ cur ∧ cur ≤ 8) : Bk.Ok ⟨mem, cur, [], 0⟩ :=
  ⟨h1, h2, by simp, by simp, fun e he => by simp at he, by simp⟩
end Go.Proofs.YthocnlalahknjaaGreat.Dd
namespace Go.Proofs.YthocnlalahknjaaGreat.Dd
set_option linter.unusedVariables false

/-- an operation -/
structure XOp where
  Do : Int
  m : Int
  id : Int
  d : Dl
structure XOp.In (x : XOp) : Prop where
  m : In64 x.m
  id : In64 x.id
  d : x.d.In
/-- a book behind it -/
def Bk.op (b : Bk) (x : XOp) : Bk :=
  if x.Do = 0 then (b.sub x.d).2 else if x.Do = 1 then (b.res x.m x.id).2 else if x.Do = 2 then (b.set x.id).2 else if x.Do = 3 then (b.rem x.m).2 else b
theorem op_ok {b : Bk} (h : b.Ok) (x : XOp) (hx : x.In) : (b.op x).Ok := by
  unfold Bk.op
  split
  · exact sub_ok h _ hx.d
  · split
    · exact res_ok h _ _
    · split
      · exact set_ok h _
      · split
        · exact rem_ok h _
        · exact h
theorem sub_mem (b : Bk) (d : Dl) : (b.sub d).2.mem = b.mem ∧ (b.sub d).2.cur = b.cur := by
  unfold Bk.sub
  split
  · exact ⟨rfl, rfl⟩
  · split
    · split <;> exact ⟨rfl, rfl⟩
    · dsimp only
      split
      · exact ⟨rfl, rfl⟩
      · split <;> exact ⟨rfl, rfl⟩
theorem res_mem (b : Bk) (m id : Int) : (b.res m id).2.mem = b.mem ∧ (b.res m id).2.cur = b.cur := by
  unfold Bk.res
  split
  · exact ⟨rfl, rfl⟩
  · dsimp only
    split
    · exact ⟨rfl, rfl⟩
    · split
      · exact ⟨rfl, rfl⟩
      · split <;> exact ⟨rfl, rfl⟩
theorem set_mem (b : Bk) (id : Int) : (b.set id).2.mem = b.mem ∧ (b.set id).2.cur = b.cur := by
  unfold Bk.set
  split
  · exact ⟨rfl, rfl⟩
  · dsimp only
    split <;> exact ⟨rfl, rfl⟩
theorem op_mem (b : Bk) (x : XOp) : (b.op x).mem = b.mem ∧ (b.op x).cur = b.cur := by
  unfold Bk.op
  split
  · exact sub_mem _ _
  · split
    · exact res_mem _ _ _
    · split
      · exact set_mem _ _
      · split <;> exact ⟨rfl, rfl⟩
/-- an entry goes on -/
def Goes (x y : En) : Prop := y.d = x.d ∧ (y.st = x.st ∨ (x.st = 1 ∧ (y.st = 2 ∨ y.st = 4)) ∨ (x.st = 2 ∧ (y.st = 3 ∨ y.st = 4)))
theorem Goes.refl (x : En) : Goes x x := ⟨rfl, .inl rfl⟩
/-- a book goes on -/
def Fwd (b b' : Bk) : Prop := ∀ i (h : i < b.l.length), ∃ h' : i < b'.l.length, Goes b.l[i] b'.l[i]
theorem Fwd.refl (b : Bk) : Fwd b b := fun i h => ⟨h, Goes.refl _⟩
theorem fwd_set {b : Bk} {i : Nat} (hi : i < b.l.length) (e : En) (n : Nat) (he : Goes b.l[i] e) : Fwd b { b with l := b.l.set i e, many := n } := fun j h => by
  refine ⟨by simpa using h, ?_⟩
  show Goes b.l[j] ((b.l.set i e)[j]'(by simpa using h))
  rw [List.getElem_set]
  split
  · rename_i hij; subst hij; exact he
  · exact Goes.refl _
theorem open_st {e : En} (h : e.open = true) : e.st = 1 ∨ e.st = 2 := by unfold En.open at h; simpa using h
theorem sub_fwd (b : Bk) (d : Dl) : Fwd b (b.sub d).2 := by
  unfold Bk.sub
  split
  · exact Fwd.refl b
  · rcases ha : atL b.l d.id with _ | i
    · dsimp only
      split
      · exact Fwd.refl b
      · intro j h
        refine ⟨by show j < (b.l ++ _).length; simp; omega, ?_⟩
        show Goes b.l[j] ((b.l ++ [⟨d, 1, 0, 0⟩])[j]'(by simp; omega))
        rw [List.getElem_append_left h]; exact Goes.refl _
    · obtain ⟨hi, hie⟩ := atL_some ha
      dsimp only
      rw [getD_is hi]
      split
      · exact Fwd.refl b
      · rename_i h1
        split
        · exact Fwd.refl b
        · exact fwd_set hi _ _ ⟨rfl, .inr (.inl ⟨by omega, .inl rfl⟩)⟩
theorem res_fwd (b : Bk) (m id : Int) : Fwd b (b.res m id).2 := by
  unfold Bk.res
  rcases ha : atL b.l id with _ | i
  · exact Fwd.refl b
  · obtain ⟨hi, hie⟩ := atL_some ha
    dsimp only
    rw [getD_is hi]
    split
    · exact Fwd.refl b
    · split
      · exact Fwd.refl b
      · split
        · exact Fwd.refl b
        · rename_i h0 h1 h2
          have hsd : (b.l[i]).side m = 1 ∨ (b.l[i]).side m = 2 := by unfold En.side at h0 ⊢; split at h0 <;> (try split at h0) <;> simp_all
          have hop : (b.l[i]).open = true := by simpa using h1
          refine fwd_set hi _ b.many ?_
          rcases En.asks_cases (b.l[i]) hsd with ⟨hs1, e⟩ | ⟨hs1, ha0, e⟩ | ⟨hs1, ha0, e⟩
          · rw [e]; exact ⟨rfl, .inr (.inl ⟨hs1, .inr rfl⟩)⟩
          · rw [e]; exact ⟨rfl, .inl rfl⟩
          · rw [e]; exact ⟨rfl, .inr (.inr ⟨(open_st hop).resolve_left hs1, .inr rfl⟩)⟩
theorem set_fwd (b : Bk) (id : Int) : Fwd b (b.set id).2 := by
  unfold Bk.set
  rcases ha : atL b.l id with _ | i
  · exact Fwd.refl b
  · obtain ⟨hi, hie⟩ := atL_some ha
    dsimp only
    rw [getD_is hi]
    split
    · exact Fwd.refl b
    · rename_i h0
      exact fwd_set hi _ b.many ⟨rfl, .inr (.inr ⟨by omega, .inl rfl⟩)⟩
theorem rem_fwd (b : Bk) (m : Int) : Fwd b (b.rem m).2 := fun i h => by
  refine ⟨by show i < (b.l.map _).length; simpa using h, ?_⟩
  show Goes b.l[i] ((b.l.map (·.rem m))[i]'(by simpa using h))
  rw [List.getElem_map]
  unfold En.rem
  split
  · rename_i hh
    have hop : (b.l[i]).open = true := by unfold En.hit at hh; simp at hh; exact hh.1
    rcases open_st hop with h1 | h1
    · exact ⟨rfl, .inr (.inl ⟨h1, .inr rfl⟩)⟩
    · exact ⟨rfl, .inr (.inr ⟨h1, .inr rfl⟩)⟩
  · exact Goes.refl _
theorem op_fwd (b : Bk) (x : XOp) : Fwd b (b.op x) := by
  unfold Bk.op
  split
  · exact sub_fwd _ _
  · split
    · exact res_fwd _ _ _
    · split
      · exact set_fwd _ _
      · split
        · exact rem_fwd _ _
        · exact Fwd.refl _
theorem state_at {b : Bk} (h : b.Ok) {i : Nat} (hi : i < b.l.length) : b.state (b.l[i]).d.id = (b.l[i]).st := by
  unfold Bk.state; rw [atL_get hi h.ids]; exact congrArg En.st (getD_is hi)
theorem state_no {b : Bk} (h : b.Ok) {id : Int} (hs : b.state id ≠ 0) : ∃ i, ∃ hi : i < b.l.length, (b.l[i]).d.id = id ∧ (b.l[i]).st = b.state id := by
  rcases ha : atL b.l id with _ | i
  · unfold Bk.state at hs; rw [ha] at hs; exact absurd rfl hs
  · obtain ⟨hi, hie⟩ := atL_some ha
    exact ⟨i, hi, hie, by rw [← hie, state_at h hi]⟩
theorem st_of {b : Bk} (h : b.Ok) {i : Nat} (hi : i < b.l.length) : 1 ≤ (b.l[i]).st ∧ (b.l[i]).st ≤ 4 := En.may_st (h.good hi).2.2.1
theorem state_rng {b : Bk} (h : b.Ok) (id : Int) : b.state id = 0 ∨ (1 ≤ b.state id ∧ b.state id ≤ 4) := by
  by_cases hs : b.state id = 0
  · exact .inl hs
  · obtain ⟨i, hi, he, h2⟩ := state_no h hs
    rw [← h2]; exact .inr (st_of h hi)
/-- what stays -/
structure Stays (b b' : Bk) : Prop where
  known : ∀ id, b.state id ≠ 0 → b'.state id ≠ 0
  done : ∀ id, 3 ≤ b.state id → b'.state id = b.state id
  not1 : ∀ id, b.state id = 2 → b'.state id ≠ 1
theorem Fwd.stays {b b' : Bk} (h : b.Ok) (h' : b'.Ok) (hF : Fwd b b') : Stays b b' := by
  have key : ∀ id, b.state id ≠ 0 → (b'.state id = b.state id ∨ (b.state id = 1 ∧ (b'.state id = 2 ∨ b'.state id = 4)) ∨ (b.state id = 2 ∧ (b'.state id = 3 ∨ b'.state id = 4))) := fun id hs => by
    obtain ⟨i, hi, he, hst⟩ := state_no h hs
    obtain ⟨hi', hd, hg⟩ := hF i hi
    have e2 : (b'.l[i]).d.id = id := by rw [hd, he]
    have e3 := state_at h' hi'
    rw [e2] at e3
    rw [e3, ← hst]; exact hg
  refine ⟨fun id hs => ?_, fun id hs => ?_, fun id hs => ?_⟩
  · have := state_rng h id
    rcases key id hs with h1 | h1 | h1 <;> omega
  · rcases key id (by omega) with h1 | h1 | h1 <;> omega
  · rcases key id (by omega) with h1 | h1 | h1 <;> omega
theorem op_stays {b : Bk} (h : b.Ok) (x : XOp) (hx : x.In) : Stays b (b.op x) := (op_fwd b x).stays h (op_ok h x hx)
theorem all_mem {b : Bk} {st id : Int} : id ∈ b.all st ↔ ∃ e ∈ b.l, e.st = st ∧ e.d.id = id := by
  have e : ∀ l : List En, id ∈ (if st = 2 then lowest l else l).map (·.d.id) ↔ ∃ e ∈ l, e.d.id = id := fun l => by
    split
    · unfold lowest; simp [List.mem_mergeSort]
    · simp
  unfold Bk.all
  rw [e]
  constructor
  · rintro ⟨x, hx, rfl⟩
    obtain ⟨h1, h2⟩ := List.mem_filter.1 hx
    exact ⟨x, h1, by simpa using h2, rfl⟩
  · rintro ⟨x, hx, h1, rfl⟩
    exact ⟨x, List.mem_filter.2 ⟨hx, by simpa using h1⟩, rfl⟩
theorem all_state {b : Bk} (h : b.Ok) {st id : Int} (hm : id ∈ b.all st) : b.state id = st := by
  obtain ⟨e, he, rfl, rfl⟩ := all_mem.1 hm
  obtain ⟨i, hi, rfl⟩ := List.getElem_of_mem he
  exact state_at h hi
theorem all_of_state {b : Bk} (h : b.Ok) {st id : Int} (h1 : 1 ≤ st) (hs : b.state id = st) : id ∈ b.all st := by
  obtain ⟨i, hi, he, hst⟩ := state_no h (id := id) (by omega)
  exact all_mem.2 ⟨_, List.getElem_mem hi, by omega, he⟩
theorem all_len (b : Bk) (st : Int) : (b.all st).length = (b.l.filter fun e => decide (e.st = st)).length := by
  unfold Bk.all
  rw [List.length_map]
  split
  · unfold lowest; exact List.length_mergeSort _
  · rfl
theorem all_in {b : Bk} (h : b.Ok) {st id : Int} (hm : id ∈ b.all st) : In64 id := by
  obtain ⟨e, he, rfl, rfl⟩ := all_mem.1 hm
  exact (h.may e he).2.1.id
theorem all_le {b : Bk} (h : b.Ok) (st : Int) : (b.all st).length ≤ 200 := by
  rw [all_len]; exact Nat.le_trans (List.length_filter_le _ _) h.len
/-- how many are of the first n states -/
def cntA (b : Bk) : Nat → Nat
  | 0 => 0
  | n + 1 => cntA b n + (b.all ((n : Int) + 1)).length
theorem four_len : ∀ (l : List En), (∀ e ∈ l, 1 ≤ e.st ∧ e.st ≤ 4) → (l.filter fun e => decide (e.st = 1)).length + (l.filter fun e => decide (e.st = 2)).length + (l.filter fun e => decide (e.st = 3)).length + (l.filter fun e => decide (e.st = 4)).length = l.length
  | [], _ => rfl
  | x :: r, h => by
    have ih := four_len r fun e he => h e (by simp [he])
    have hx := h x (by simp)
    have h4 : x.st = 1 ∨ x.st = 2 ∨ x.st = 3 ∨ x.st = 4 := by omega
    rcases h4 with e | e | e | e <;> simp [e] <;> omega
theorem cntA_all {b : Bk} (h : b.Ok) : cntA b 4 = b.l.length := by
  have := four_len b.l fun e he => En.may_st (h.may e he).2.2.1
  unfold cntA cntA cntA cntA cntA
  simp only [all_len]
  simp
  simpa using this
theorem cntA_le {b : Bk} (h : b.Ok) : ∀ n, n ≤ 4 → cntA b n ≤ 200 * n
  | 0, _ => by simp [cntA]
  | n + 1, hn => by have := cntA_le h n (by omega); have := all_le h ((n : Int) + 1); unfold cntA; omega
/-- while the known are gone through -/
structure Mid (b b' : Bk) (s : Int) (l : List Int) (f : Int → Int) (ks : List Int) : Prop where
  or_ : ∀ id, f id = b'.state id ∨ f id = b.state id
  lo : ∀ id, 1 ≤ b'.state id → b'.state id < s → f id = b'.state id
  vis : ∀ id ∈ l, f id = b'.state id
  ks1 : ∀ id ∈ ks, b'.state id ≠ 0
  ks2 : ∀ id, f id ≠ 0 → id ∈ ks
  nd : ks.Nodup
/-- when they are gone through -/
structure Kept (b : Bk) (f : Int → Int) (ks : List Int) : Prop where
  at_ : ∀ id, f id = b.state id
  nd : ks.Nodup
  iff_ : ∀ id, id ∈ ks ↔ b.state id ≠ 0
def fset (f : Int → Int) (id s : Int) : Int → Int := fun j => if j = id then s else f j
def kadd (ks : List Int) (id : Int) : List Int := if id ∈ ks then ks else ks ++ [id]
theorem kadd_mem {ks : List Int} {id j : Int} : j ∈ kadd ks id ↔ j ∈ ks ∨ j = id := by
  unfold kadd; split
  · rename_i h; exact ⟨.inl, fun h2 => h2.elim (fun h3 => h3) fun e => e ▸ h⟩
  · simp
theorem kadd_nd {ks : List Int} (h : ks.Nodup) (id : Int) : (kadd ks id).Nodup := by
  unfold kadd; split
  · exact h
  · rename_i hn
    rw [List.nodup_append]
    exact ⟨h, by simp, fun a ha c hc e => by simp at hc; subst hc; exact hn (e ▸ ha)⟩
theorem Kept.mid {b b' : Bk} {f : Int → Int} {ks : List Int} (h : Kept b f ks) (hS : Stays b b') : Mid b b' 1 [] f ks :=
  ⟨fun id => .inr (h.at_ id), fun id h1 h2 => by omega, fun id hi => (by cases hi), fun id hi => hS.known id ((h.iff_ id).1 hi), fun id hf => (h.iff_ id).2 (by rw [← h.at_ id]; exact hf), h.nd⟩
theorem Mid.ok {b b' : Bk} {s : Int} {l : List Int} {f : Int → Int} {ks : List Int} (h : Mid b b' s l f ks) (h' : b'.Ok) (hS : Stays b b') {id : Int} (hi : id ∈ b'.all s) : (3 ≤ f id → f id = s) ∧ (f id = 2 → s ≠ 1) := by
  have e := all_state h' hi
  rcases h.or_ id with h1 | h1
  · exact ⟨fun _ => by omega, fun h2 => by omega⟩
  · exact ⟨fun h2 => by rw [h1, ← e]; exact (hS.done id (by omega)).symm, fun h2 h3 => hS.not1 id (by omega) (by omega)⟩
theorem Mid.step {b b' : Bk} {s : Int} {l : List Int} {f : Int → Int} {ks : List Int} (h : Mid b b' s l f ks) (h' : b'.Ok) (hs : 1 ≤ s) {id : Int} (hi : id ∈ b'.all s) : Mid b b' s (l ++ [id]) (fset f id s) (kadd ks id) := by
  have e := all_state h' hi
  refine ⟨fun j => ?_, fun j h1 h2 => ?_, fun j hj => ?_, fun j hj => ?_, fun j hj => ?_, kadd_nd h.nd id⟩
  · unfold fset; split
    · rename_i hj; subst hj; exact .inl e.symm
    · exact h.or_ j
  · unfold fset; split
    · rename_i hj; subst hj; exact e.symm
    · exact h.lo j h1 h2
  · unfold fset; split
    · rename_i hj2; subst hj2; exact e.symm
    · rename_i hj2
      rcases List.mem_append.1 hj with hj | hj
      · exact h.vis j hj
      · simp at hj; exact absurd hj hj2
  · rcases kadd_mem.1 hj with hj | rfl
    · exact h.ks1 j hj
    · omega
  · unfold fset at hj; split at hj
    · rename_i hj2; exact kadd_mem.2 (.inr hj2)
    · exact kadd_mem.2 (.inl (h.ks2 j hj))
theorem Mid.next {b b' : Bk} {s : Int} {f : Int → Int} {ks : List Int} (h : Mid b b' s (b'.all s) f ks) (h' : b'.Ok) (hs : 1 ≤ s) : Mid b b' (s + 1) [] f ks := by
  refine ⟨h.or_, fun j h1 h2 => ?_, fun j hj => (by cases hj), h.ks1, h.ks2, h.nd⟩
  by_cases e : b'.state j = s
  · exact h.vis j (all_of_state h' hs e)
  · exact h.lo j h1 (by omega)
theorem Mid.kept {b b' : Bk} {f : Int → Int} {ks : List Int} (h : Mid b b' 5 [] f ks) (h' : b'.Ok) (hS : Stays b b') : Kept b' f ks := by
  have hf : ∀ id, f id = b'.state id := fun id => by
    rcases state_rng h' id with h0 | h0
    · rcases h.or_ id with h1 | h1
      · exact h1
      · have : b.state id = 0 := by
          by_cases e : b.state id = 0
          · exact e
          · exact absurd h0 (hS.known id e)
        omega
    · exact h.lo id h0.1 (by omega)
  exact ⟨hf, h.nd, fun id => ⟨h.ks1 id, fun hn => h.ks2 id (by rw [hf id]; exact hn)⟩⟩
theorem Kept.len {b : Bk} {f : Int → Int} {ks : List Int} (h : Kept b f ks) (h' : b.Ok) : ks.length = cntA b 4 := by
  rw [cntA_all h']
  have hp : ks.Perm (b.l.map (·.d.id)) := by
    refine (List.perm_ext_iff_of_nodup h.nd h'.ids).2 fun id => ?_
    rw [h.iff_]
    constructor
    · intro hs
      obtain ⟨i, hi, he, _⟩ := state_no h' hs
      exact List.mem_map.2 ⟨_, List.getElem_mem hi, he⟩
    · intro hm
      obtain ⟨e, he, rfl⟩ := List.mem_map.1 hm
      obtain ⟨i, hi, rfl⟩ := List.getElem_of_mem he
      have := state_at h' hi
      have := st_of h' hi
      omega
  rw [hp.length_eq, List.length_map]
theorem Kept.new (mem cur : Int) : Kept ⟨mem, cur, [], 0⟩ (fun _ => 0) [] := ⟨fun _ => rfl, by simp, fun id => by simp [Bk.state, atL]⟩
end Go.Proofs.YthocnlalahknjaaGreat.Dd
