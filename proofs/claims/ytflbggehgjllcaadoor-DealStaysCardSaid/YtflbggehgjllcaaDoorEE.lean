/- What DealStays knows, in memory: the map of known Ids beside the book. -/
import Derived.Test.YtflbggehgjllcaaDoorPX
import Derived.Test.YtflbggehgjllcaaDoorDZ
namespace Go.Proofs.YtflbggehgjllcaaDoor
open Go.RowKit Go.Maps
set_option linter.unusedVariables false

/-- the map of what is known -/
structure KD (D : DataW Value) (f : Int → Int) (ks : List Int) : Prop where
  at_ : ∀ id, In64 id → D.atKey (.int .i64 id) (.lit (.int .i64 0)) = .lit (.int .i64 (f id))
  has : ∀ id, In64 id → Maps.has D (.int .i64 id) = decide (id ∈ ks)
  size : Maps.size D = ks.length
theorem KD.new : KD (.map []) (fun _ => 0) [] := ⟨fun id h => rfl, fun id h => rfl, rfl⟩
theorem KD.put {D : DataW Value} {f : Int → Int} {ks : List Int} (h : KD D f ks) (hm : Maps.IsMap D) (ht : Maps.Tidy D) {id : Int} (hid : In64 id) (s : Int) : KD (D.put (.int .i64 id) (.lit (.int .i64 s))) (fset f id s) (kadd ks id) := by
  refine ⟨fun j hj => ?_, fun j hj => ?_, ?_⟩
  · unfold fset
    by_cases e : j = id
    · subst e; rw [if_pos rfl, Maps.atKey_put_same hm (keyInt.key (key_int hid))]
    · rw [if_neg e, Maps.atKey_put_other (fun e2 => e (by injection e2))]; exact h.at_ j hj
  · by_cases e : j = id
    · subst e
      rw [Maps.has_put_same hm (keyInt.key (key_int hid))]
      exact (decide_eq_true (kadd_mem.2 (.inr rfl))).symm
    · rw [Maps.has_put_other (fun e2 => e (by injection e2)), h.has j hj]
      refine decide_eq_decide.2 ⟨fun h => kadd_mem.2 (.inl h), fun h => (kadd_mem.1 h).resolve_right e⟩
  · rw [Maps.size_put ht, h.has id hid, h.size]
    unfold kadd
    by_cases e : id ∈ ks
    · simp [e]
    · simp [e]
theorem own_tight {w : World} {mb n : Nat} {D : DataW Value} (h : w.ownsMap Tryd.prog 3 (plainElem Tryd.prog 3) mb n D) : w.ownsMap Tryd.prog 3 (plainElem Tryd.prog 3) mb (Maps.size D) D := by
  obtain ⟨es, clock, hb, F, hs, rfl⟩ := h
  exact ⟨es, clock, hb, F, by simp [Maps.size, length_sorted], rfl⟩
theorem ks_le {b b' : Bk} {s : Int} {l : List Int} {f : Int → Int} {ks : List Int} (h : Mid b b' s l f ks) (h' : b'.Ok) : ks.length ≤ 200 := by
  have hp : ks.Perm ((b'.l.map (·.d.id)).filter fun id => decide (id ∈ ks)) := by
    refine (List.perm_ext_iff_of_nodup h.nd (h'.ids.sublist List.filter_sublist)).2 fun id => ?_
    rw [List.mem_filter]
    constructor
    · intro hi
      obtain ⟨i, hi2, he, _⟩ := state_no h' (h.ks1 id hi)
      exact ⟨List.mem_map.2 ⟨_, List.getElem_mem hi2, he⟩, by simpa using hi⟩
    · intro hi; simpa using hi.2
  rw [hp.length_eq]
  have := List.length_filter_le (fun id => decide (id ∈ ks)) (b'.l.map (·.d.id))
  rw [List.length_map] at this
  exact Nat.le_trans this h'.len
/-- the book and the map beside it -/
structure DS (w : World) (gb mb : Nat) (b : Bk) (f : Int → Int) (ks : List Int) (wr : World) : Prop where
  bs : BS (fun j => j < w.heap.size ∨ j = mb) gb b wr
  mp : ∃ D, wr.ownsMap Tryd.prog 3 (plainElem Tryd.prog 3) mb ks.length D ∧ KD D f ks
  bl : Below w.heap.size w wr
  ge : w.heap.size ≤ mb
section
variable {w wr w' : World} {gb mb : Nat} {b b' : Bk} {f : Int → Int} {ks : List Int}
theorem DS.mlt (h : DS w gb mb b f ks wr) : mb < wr.heap.size := h.bs.lt mb (.inr rfl)
theorem DS.below (h : DS w gb mb b f ks wr) (hb : Below wr.heap.size wr w') : DS w gb mb b f ks w' := by
  obtain ⟨D, h1, h2⟩ := h.mp
  exact ⟨h.bs.below hb, ⟨D, own_block h1 (hb.block mb h.mlt), h2⟩, h.bl.trans (hb.mono h.bl.size), h.ge⟩
theorem DS.op (h : DS w gb mb b f ks wr) (hB : BS (fun j => j < w.heap.size ∨ j = mb) gb b' w') (hK : Kp (fun j => ¬ (j < w.heap.size ∨ j = mb)) wr w') : DS w gb mb b' f ks w' := by
  obtain ⟨D, h1, h2⟩ := h.mp
  exact ⟨hB, ⟨D, own_block h1 (hK.block mb h.mlt fun hn => hn (.inr rfl)), h2⟩, h.bl.trans (hK.below h.bl.size fun j hj hn => hn (.inl hj)), h.ge⟩
theorem DS.put (h : DS w gb mb b f ks wr) {D : DataW Value} {n : Nat} {id s : Int} (hid : In64 id) (hD : wr.ownsMap Tryd.prog 3 (plainElem Tryd.prog 3) mb ks.length D) (hk : KD D f ks) (ho : w'.ownsMap Tryd.prog 3 (plainElem Tryd.prog 3) mb n (D.put (.int .i64 id) (.lit (.int .i64 s)))) (hg : wr.grownBy w' (some mb)) :
    DS w gb mb b (fset f id s) (kadd ks id) w' ∧ Kp (fun j => j = mb) wr w' := by
  have hK : Kp (fun j => j = mb) wr w' := ((Kp.refl _ _).grown hg fun k hk => .inl (by injection hk with hk; exact hk.symm))
  have hk2 := hk.put hD.isMap (hD.tidy keyInt) hid s
  refine ⟨⟨h.bs.kp hK fun j e => .inr e, ⟨_, ?_, hk2⟩, h.bl.trans (hK.below h.bl.size fun j hj e => by have := h.ge; omega), h.ge⟩, hK⟩
  have := own_tight ho
  rwa [hk2.size] at this
theorem DS.look (h : DS w gb mb b f ks wr) {D : DataW Value} (hD : wr.ownsMap Tryd.prog 3 (plainElem Tryd.prog 3) mb ks.length D) (hk : KD D f ks) {id : Int} (hid : In64 id) : (Instr.lookup 53 (.map (some mb)) (.int .i64 id) false).run Tryd.prog wr = .ok (.int .i64 (f id)) wr := by
  obtain ⟨c, hrun, hat, hwc⟩ := hD.lookup_int keyInt Tryd.underlying53 Tryd.underlying3 (zero3 wr) (key_int hid)
  rw [hk.at_ id hid] at hat
  simp only [DataW.lit.injEq, Lit.int.injEq, true_and] at hat
  rw [hat]; exact hrun
end
end Go.Proofs.YtflbggehgjllcaaDoor
