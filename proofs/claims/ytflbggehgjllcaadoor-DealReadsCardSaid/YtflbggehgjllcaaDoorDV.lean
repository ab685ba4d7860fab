/- What a book keeps to stays so, whatever is done. No Go text. -/
import Derived.Test.YtflbggehgjllcaaDoorDN
namespace Go.Proofs.YtflbggehgjllcaaDoor

def nthL (l : List En) : List Int := (l.filter fun e => decide (0 < e.nth)).map (·.nth)
theorem nthL_eq (l : List En) : nthL l = (l.map (·.nth)).filter fun x => decide (0 < x) := by
  unfold nthL; rw [List.filter_map]; rfl
theorem nthL_set {l : List En} {i : Nat} (h : i < l.length) (e : En) (he : e.nth = l[i].nth) : nthL (l.set i e) = nthL l := by
  rw [nthL_eq, nthL_eq, List.map_set, he]
  have : (l.map (·.nth)).set i l[i].nth = l.map (·.nth) := by
    have h2 : l[i].nth = (l.map (·.nth))[i]'(by simpa using h) := by rw [List.getElem_map]
    rw [h2]; exact List.set_getElem_self _
  rw [this]
theorem filt_set : ∀ (L : List Int) (i : Nat) (v : Int), (h : i < L.length) → ¬ 0 < L[i] → 0 < v → ((L.set i v).filter fun x => decide (0 < x)).Perm (v :: L.filter fun x => decide (0 < x))
  | [], i, v, h, _, _ => by simp at h
  | x :: r, 0, v, h, h0, hv => by
    have h0' : ¬ 0 < x := h0
    rw [List.set_cons_zero, List.filter_cons_of_pos (by simpa using hv), List.filter_cons_of_neg (by simpa using h0')]
  | x :: r, i + 1, v, h, h0, hv => by
    have ih := filt_set r i v (by simpa using h) (by simpa using h0) hv
    rw [List.set_cons_succ]
    by_cases hx : 0 < x
    · rw [List.filter_cons_of_pos (by simpa using hx), List.filter_cons_of_pos (by simpa using hx)]
      exact (ih.cons x).trans (List.Perm.swap v x _)
    · rw [List.filter_cons_of_neg (by simpa using hx), List.filter_cons_of_neg (by simpa using hx)]
      exact ih
theorem nthL_match {l : List En} {i : Nat} (h : i < l.length) (e : En) (h0 : ¬ 0 < l[i].nth) (hv : 0 < e.nth) : (nthL (l.set i e)).Perm (e.nth :: nthL l) := by
  rw [nthL_eq, nthL_eq, List.map_set]
  exact filt_set _ _ _ (by simpa using h) (by simpa using h0) hv
theorem ids_set {l : List En} {i : Nat} (h : i < l.length) (e : En) (he : e.d.id = l[i].d.id) : (l.set i e).map (·.d.id) = l.map (·.d.id) := by
  rw [List.map_set, he]
  have h2 : l[i].d.id = (l.map (·.d.id))[i]'(by simpa using h) := by rw [List.getElem_map]
  rw [h2]; exact List.set_getElem_self _

/-- one entry is as it must be -/
def En.Good (e : En) (mem cur : Int) (many : Nat) : Prop := mayB e.d mem cur = true ∧ e.d.In ∧ e.may = true ∧ 0 ≤ e.ask ∧ 0 ≤ e.nth ∧ e.nth ≤ (many : Int)
theorem En.may_1 {e : En} (h : e.may = true) (hs : e.st = 1) : ¬ 0 < e.nth ∧ e.ask = 0 := by
  unfold En.may at h; rw [if_pos hs] at h; simpa using h
theorem En.may_2 {e : En} (h : e.may = true) (hs : e.st = 2 ∨ e.st = 3) : 0 < e.nth ∧ e.ask < 3 := by
  unfold En.may at h; rw [if_neg (by omega), if_pos hs] at h; simpa using h
theorem En.may_st {e : En} (h : e.may = true) : 1 ≤ e.st ∧ e.st ≤ 4 := by
  unfold En.may at h
  split at h
  · omega
  · split at h
    · omega
    · split at h
      · omega
      · cases h
theorem En.may_ask {e : En} (h : e.may = true) : e.ask ≤ 3 := by
  unfold En.may at h
  split at h
  · simp at h; omega
  · split at h
    · simp at h; omega
    · split at h
      · simp at h; omega
      · cases h
theorem En.may_4 {e : En} (hs : e.st = 4) (h : e.ask = 0 ∨ (0 < e.nth ∧ e.ask ≤ 3)) : e.may = true := by
  unfold En.may
  rw [if_neg (by omega), if_neg (by omega), if_pos hs]
  simpa using h
/-- an entry that takes another's place -/
theorem Bk.Ok.put {b : Bk} (h : b.Ok) {i : Nat} (hi : i < b.l.length) (e : En) (hid : e.d.id = b.l[i].d.id) (hn : e.nth = b.l[i].nth) (he : e.Good b.mem b.cur b.many) : Bk.Ok { b with l := b.l.set i e } := by
  refine ⟨h.mem, h.cur, by simpa using h.len, by rw [ids_set hi e hid]; exact h.ids, fun x hx => ?_, by have := nthL_set hi e hn; unfold nthL at this; rw [this]; exact h.nth⟩
  rcases List.mem_or_eq_of_mem_set hx with hx | rfl
  · exact h.may x hx
  · exact he
theorem Bk.Ok.good {b : Bk} (h : b.Ok) {i : Nat} (hi : i < b.l.length) : (b.l[i]).Good b.mem b.cur b.many := h.may _ (List.getElem_mem hi)
theorem getD_is {l : List En} {i : Nat} (h : i < l.length) : l.getD i default = l[i] := by rw [List.getD_eq_getElem?_getD, List.getElem?_eq_getElem h]; rfl
theorem up_succ (n : Nat) : ((List.range (n + 1)).map fun (k : Nat) => (k : Int) + 1) = ((List.range n).map fun (k : Nat) => (k : Int) + 1) ++ [(n : Int) + 1] := by
  rw [List.range_succ, List.map_append]; rfl
theorem sub_ok {b : Bk} (h : b.Ok) (d : Dl) (hd : d.In) : (b.sub d).2.Ok := by
  unfold Bk.sub
  split
  · exact h
  · rename_i hm
    have hm' : mayB d b.mem b.cur = true := by simpa using hm
    rcases ha : atL b.l d.id with _ | i
    · dsimp only
      split
      · exact h
      · rename_i hl
        refine ⟨h.mem, h.cur, by simp; omega, ?_, fun x hx => ?_, ?_⟩
        · rw [List.map_append, List.nodup_append]
          refine ⟨h.ids, by simp, fun a ha' c hc e => ?_⟩
          obtain ⟨x, hx, rfl⟩ := List.mem_map.1 ha'
          simp at hc
          exact atL_none ha x hx (by rw [e, hc])
        · rcases List.mem_append.1 hx with hx | hx
          · exact h.may x hx
          · simp at hx
            subst hx
            exact ⟨hm', hd, rfl, by simp, by simp, by simp⟩
        · rw [List.filter_append, List.map_append]
          simpa using h.nth
    · obtain ⟨hi, hie⟩ := atL_some ha
      dsimp only
      rw [getD_is hi]
      split
      · exact h
      · rename_i h1
        split
        · exact h
        · have hg := h.good hi
          have hs1 : (b.l[i]).st = 1 := by omega
          obtain ⟨h0, ha0⟩ := En.may_1 hg.2.2.1 hs1
          refine ⟨h.mem, h.cur, by simpa using h.len, by show ((b.l.set i _).map _).Nodup; rw [ids_set hi { b.l[i] with st := 2, nth := (b.many : Int) + 1 } rfl]; exact h.ids, fun x hx => ?_, ?_⟩
          · rcases List.mem_or_eq_of_mem_set hx with hx | rfl
            · obtain ⟨a1, a2, a3, a4, a5, a6⟩ := h.may x hx
              exact ⟨a1, a2, a3, a4, a5, by dsimp only; omega⟩
            · refine ⟨hg.1, hg.2.1, ?_, hg.2.2.2.1, by dsimp only; omega, by dsimp only; omega⟩
              unfold En.may
              dsimp only
              rw [if_neg (by omega), if_pos (.inl rfl)]
              simp [ha0]
          · have hp := nthL_match hi { b.l[i] with st := 2, nth := (b.many : Int) + 1 } h0 (by dsimp only; omega)
            rw [up_succ]
            exact hp.trans ((h.nth.cons _).trans (List.perm_append_singleton _ _).symm)
theorem En.asks_cases (e : En) {side : Int} (hs : side = 1 ∨ side = 2) : (e.st = 1 ∧ e.asks side = { e with st := 4 }) ∨ (e.st ≠ 1 ∧ e.ask = 0 ∧ e.asks side = { e with ask := side }) ∨ (e.st ≠ 1 ∧ e.ask ≠ 0 ∧ e.asks side = { e with ask := 3, st := 4 }) := by
  unfold En.asks
  by_cases h1 : e.st = 1
  · exact .inl ⟨h1, by rw [if_pos h1]⟩
  · by_cases h2 : e.ask = 0
    · exact .inr (.inl ⟨h1, h2, by rw [if_neg h1, if_pos h2]; dsimp only; rw [if_neg (by omega)]⟩)
    · exact .inr (.inr ⟨h1, h2, by rw [if_neg h1, if_neg h2]; dsimp only; rw [if_pos rfl]⟩)
theorem res_ok {b : Bk} (h : b.Ok) (m id : Int) : (b.res m id).2.Ok := by
  unfold Bk.res
  rcases ha : atL b.l id with _ | i
  · exact h
  · obtain ⟨hi, hie⟩ := atL_some ha
    dsimp only
    rw [getD_is hi]
    split
    · exact h
    · split
      · exact h
      · split
        · exact h
        · rename_i h0 h1 h2
          have hg := h.good hi
          have hsd : (b.l[i]).side m = 1 ∨ (b.l[i]).side m = 2 := by unfold En.side at h0 ⊢; split at h0 <;> (try split at h0) <;> simp_all
          rcases En.asks_cases (b.l[i]) hsd with ⟨hs1, e⟩ | ⟨hs1, ha0, e⟩ | ⟨hs1, ha0, e⟩
          · rw [e]
            obtain ⟨_, ha0⟩ := En.may_1 hg.2.2.1 hs1
            exact h.put hi _ rfl rfl ⟨hg.1, hg.2.1, En.may_4 rfl (.inl ha0), hg.2.2.2⟩
          · rw [e]
            have hop : (b.l[i]).open = true := by simpa using h1
            have hs2 : (b.l[i]).st = 2 := by unfold En.open at hop; simp at hop; omega
            obtain ⟨hn, hk⟩ := En.may_2 hg.2.2.1 (.inl hs2)
            refine h.put hi _ rfl rfl ⟨hg.1, hg.2.1, ?_, by dsimp only; omega, hg.2.2.2.2⟩
            unfold En.may
            dsimp only
            rw [if_neg hs1, if_pos (.inl hs2)]
            simp
            omega
          · rw [e]
            have hop : (b.l[i]).open = true := by simpa using h1
            have hs2 : (b.l[i]).st = 2 := by unfold En.open at hop; simp at hop; omega
            obtain ⟨hn, hk⟩ := En.may_2 hg.2.2.1 (.inl hs2)
            exact h.put hi _ rfl rfl ⟨hg.1, hg.2.1, En.may_4 rfl (.inr ⟨hn, by dsimp only; omega⟩), by dsimp only; omega, hg.2.2.2.2⟩
theorem set_ok {b : Bk} (h : b.Ok) (id : Int) : (b.set id).2.Ok := by
  unfold Bk.set
  rcases ha : atL b.l id with _ | i
  · exact h
  · obtain ⟨hi, hie⟩ := atL_some ha
    dsimp only
    rw [getD_is hi]
    split
    · exact h
    · rename_i h0
      have hg := h.good hi
      have hs2 : (b.l[i]).st = 2 := by omega
      obtain ⟨hn, hk⟩ := En.may_2 hg.2.2.1 (.inl hs2)
      refine h.put hi _ rfl rfl ⟨hg.1, hg.2.1, ?_, hg.2.2.2⟩
      unfold En.may
      dsimp only
      rw [if_neg (by omega), if_pos (.inr rfl)]
      simp; omega
theorem rem_ok {b : Bk} (h : b.Ok) (m : Int) : (b.rem m).2.Ok := by
  have hd : ∀ e : En, (e.rem m).d = e.d := fun e => by unfold En.rem; split <;> rfl
  have hn : ∀ e : En, (e.rem m).nth = e.nth := fun e => by unfold En.rem; split <;> rfl
  have e1 : ((b.l.map (·.rem m)).map (·.d.id)) = b.l.map (·.d.id) := by rw [List.map_map]; congr 1; funext e; simp [hd]
  have e2 : nthL (b.l.map (·.rem m)) = nthL b.l := by
    rw [nthL_eq, nthL_eq, List.map_map]; congr 1
    have : ((fun x : En => x.nth) ∘ fun x : En => x.rem m) = fun x : En => x.nth := by funext e; simp [hn]
    rw [this]
  refine ⟨h.mem, h.cur, by show (b.l.map _).length ≤ 200; rw [List.length_map]; exact h.len, by show ((b.l.map _).map _).Nodup; rw [e1]; exact h.ids, fun x hx => ?_, by
    show (nthL (b.l.map (·.rem m))).Perm _
    rw [e2]; exact h.nth⟩
  obtain ⟨y, hy, rfl⟩ := List.mem_map.1 (show x ∈ b.l.map (·.rem m) from hx)
  have hg := h.may y hy
  unfold En.rem
  split
  · rename_i hh
    refine ⟨hg.1, hg.2.1, ?_, hg.2.2.2⟩
    have hop : y.open = true := by unfold En.hit at hh; simp at hh; exact hh.1
    have : y.st = 1 ∨ y.st = 2 := by unfold En.open at hop; simpa using hop
    rcases this with h1 | h1
    · exact En.may_4 rfl (.inl (En.may_1 hg.2.2.1 h1).2)
    · obtain ⟨a, c⟩ := En.may_2 hg.2.2.1 (.inl h1)
      exact En.may_4 rfl (.inr ⟨a, by dsimp only; omega⟩)
  · exact hg
theorem up_nodup (n : Nat) : ((List.range n).map fun (k : Nat) => (k : Int) + 1).Nodup := by
  rw [List.nodup_iff_pairwise_ne, List.pairwise_map]
  exact List.nodup_range.imp fun h e => h (by omega)
theorem Bk.Ok.many {b : Bk} (h : b.Ok) : b.many = (nthL b.l).length ∧ b.many ≤ 200 := by
  have h1 := h.nth.length_eq
  rw [List.length_map, List.length_map, List.length_range] at h1
  have h2 : (nthL b.l).length ≤ b.l.length := by unfold nthL; rw [List.length_map]; exact List.length_filter_le _ _
  have h3 := h.len
  unfold nthL at *
  rw [List.length_map] at *
  omega
theorem Bk.Ok.nodup2 {b : Bk} (h : b.Ok) : ((b.l.filter fun e => decide (e.st = 2)).map (·.nth)).Nodup := by
  have h1 : (nthL b.l).Nodup := h.nth.nodup_iff.2 (up_nodup _)
  refine List.Nodup.sublist ?_ h1
  unfold nthL
  refine List.Sublist.map _ ?_
  have : b.l.filter (fun e => decide (e.st = 2)) = (b.l.filter fun e => decide (0 < e.nth)).filter fun e => decide (e.st = 2) := by
    rw [List.filter_filter]
    refine List.filter_congr fun x hx => ?_
    by_cases hs : x.st = 2
    · have := (En.may_2 (h.may x hx).2.2.1 (.inl hs)).1
      simp [hs, this]
    · simp [hs]
  rw [this]
  exact List.filter_sublist
theorem new_ok {mem cur : Int} (h1 : 1 ≤ mem ∧ mem ≤ 16) (h2 : 1 ≤ cur ∧ cur ≤ 8) : Bk.Ok ⟨mem, cur, [], 0⟩ :=
  ⟨h1, h2, by simp, by simp, fun e he => by simp at he, by simp⟩
end Go.Proofs.YtflbggehgjllcaaDoor
