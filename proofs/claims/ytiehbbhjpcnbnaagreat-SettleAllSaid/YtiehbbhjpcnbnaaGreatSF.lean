/- What a round of Cycle's range does to its box. -/
import Derived.Test.YtiehbbhjpcnbnaaGreatSE
namespace Go.Proofs.YtiehbbhjpcnbnaaGreat
open Go.RowKit Go.Shelf
set_option linter.unusedVariables false

theorem wpListIn_app1 {F : Fence} {m : Nat} (S T k bytes : Nat) (z : Value) (hS : Tryz.prog.underlying S = some (.slice T)) (hI : (Tryz.prog.info? T).map (fun i => (i.zero, i.size, i.bytes)) = some (some z, k, bytes)) (hk : z.cells.size = k) (hk0 : 0 < k) (hb : bytes ≤ 1000)
    {ops : Array Oper} {rest : List Oper} {o : Oper} {a : Act} {w : World} {Q : Exit → Act → World → Prop} (hgd : o.guard = none) (sl x : Operand) (hty : o.type = S)
    (ho : o.op = .call { callee := .builtin .append, args := #[sl, x], argTypes := #[S, S] })
    (v : Value) (n : Nat) (xs : List Value) (hs : a.eval sl = v) (hrow : w.ownsRow 0 T k v n xs) (b : Addr) (news : List Value) (hx : a.eval x = .slice (some b) 1 1) (hl : news.length = k) (hnew : ∀ j u, news[j]? = some u → w.cell? (b.add j) = some u) (h1 : ∀ u ∈ news, u.oneCell' = true) (hn : n + 1 ≤ 16777216)
    (h : ∀ v' w', w'.ownsRow 0 T k v' (n + 1) (xs ++ news) → w.grownBy w' v.ownBlock → (∀ g, v'.ownBlock = some g → v.ownBlock = some g ∨ w.heap.size ≤ g) → wpListIn F m Tryz.prog ops Q rest (a.put o.dst v') w') : wpListIn F m Tryz.prog ops Q (o :: rest) a w := by
  refine wpListIn_plain hgd fun K hK' => ?_
  obtain ⟨v', w', hr, h2, h3, h4⟩ := Dd.app1_run S T k bytes z hS hI hk hk0 hb w v n xs hrow b news hl hnew h1 hn
  unfold Oper.wpIn
  refine ⟨?_, ?_⟩
  · simp [Oper.about, ho, resolve, Target.leads, Sem.run_pure]
  · rw [Oper.semAt_plain F _ _ (by rw [ho]; intro c hc'; cases hc')]
    simp [execOp, ho, hty, resolve, invoke, builtin, hs, hx, hr, Result.andThen]
    exact hK' _ _ (h v' w' h2 h3 h4)

section
variable {K K' : Nat → Prop} {c : GC} {s : ST} {w w' : World}
/-- a write to what stays, and what has been made since -/
theorem PS.kpm {F : Nat → Prop} (h : PS K c s w) (hF : Kp F w w') (hK : ∀ j, j < w.heap.size → F j → K j) (hK' : ∀ j, K' j → K j ∨ (w.heap.size ≤ j ∧ j < w'.heap.size)) : PS K' c s w' := by
  obtain ⟨⟨G, P, h1, h2, h3, h4⟩, h5⟩ := h
  have hs := hF.size
  refine ⟨⟨fun j => G j ∨ (w.heap.size ≤ j ∧ j < w'.heap.size), P, GS.other h1 hF (fun j hj e => ?_) (fun j hj => ⟨fun e => e.resolve_right (by omega), .inl⟩) (fun j hj => ?_), (Dd.PB.live c.kb s.b).kept h2 (kp_in hF) fun j hj hp hf => (h4 j (hK j hj hf)).2 hp, fun j hj => ⟨(h3 j hj).1.more .inl, Nat.lt_of_lt_of_le (h3 j hj).2 hs⟩, fun j hj => ?_⟩, h5⟩
  · have := (h4 j (hK j hj e)).1
    exact ⟨this.1, this.2.1, this.2.2.1, this.2.2.2.1, this.2.2.2.2⟩
  · rcases hj with hj | hj
    · exact Nat.lt_of_lt_of_le (h1.st.lt j hj) hs
    · exact hj.2
  · rcases hK' j hj with e | e
    · exact ⟨(h4 j e).1.more .inl, (h4 j e).2⟩
    · exact ⟨fx_new h1 e.1 e.2, fun hp => by have := (h3 j hp).2; omega⟩
end
section
variable {c : GC} {n0 : Nat} {U U' : Nat → Prop} {s : ST} {out : List Int} {W W' : World}
theorem Jb.grow (h : Jb c n0 U s out W) : ∃ p cap, W.cell? ⟨n0, 0, none⟩ = some (.slice p out.length cap) ∧ (∀ i, W.frozen? ⟨n0, i, none⟩ = false) ∧ n0 < W.heap.size ∧ Dd.IRow W (.slice p out.length cap) out ∧ (∀ o, (W.alloc o).ownsRow 0 3 1 (.slice p out.length cap) out.length (out.map (Value.int .i64))) ∧
    ∀ (o : Obj) (x : Int) (g' cap' : Nat) (W2 : World), W2.ownsRow 0 3 1 (.slice (some ⟨g', 0, none⟩) (out.length + 1) cap') (out.length + 1) (out.map (Value.int .i64) ++ [.int .i64 x]) → (W.alloc o).grownBy W2 (Value.slice p out.length cap).ownBlock →
      (∀ g, (Value.slice (some ⟨g', 0, none⟩) (out.length + 1) cap').ownBlock = some g → (Value.slice p out.length cap).ownBlock = some g ∨ (W.alloc o).heap.size ≤ g) →
      W2.cell? ⟨n0, 0, none⟩ = some (.slice p out.length cap) ∧ (∀ i, W2.frozen? ⟨n0, i, none⟩ = false) ∧ Jb c n0 U s (out ++ [x]) (W2.setCell ⟨n0, 0, none⟩ (.slice (some ⟨g', 0, none⟩) (out.length + 1) cap')) ∧ Keeps U W (W2.setCell ⟨n0, 0, none⟩ (.slice (some ⟨g', 0, none⟩) (out.length + 1) cap')) := by
  obtain ⟨⟨p, cap, h1, h2, h3, h4⟩, h5⟩ := h
  have hn0 := obj_lt h1
  have hUl := h3.lt
  refine ⟨p, cap, obj_cell h1 rfl, fun i => obj_free h1 i, hn0, h2, fun o => Dd.orow_kept h2 fun g hg => Below.heap_alloc _ _ _ (World.ownsRow.lt h2 g hg).2, ?_⟩
  intro o x g' cap' W2 hr hg hv
  have hne : ∀ g, (Value.slice p out.length cap).ownBlock = some g → g ≠ n0 := by
    rintro g hg rfl
    obtain ⟨cur, hc⟩ := Dd.irow_obj h2 hg
    rw [h1] at hc
    simp at hc
  have hK1 : Kp (fun j => (Value.slice p out.length cap).ownBlock = some j) W W2 := ((Kp.refl _ W).alloc o).grown hg (fun k hk => .inl hk)
  have hb2 : W2.heap[n0]? = some (.cells #[.slice p out.length cap] 39 (0, 0)) := (hK1.block n0 hn0 (fun e => hne _ e rfl)).trans h1
  have hK2 : Kp (fun j => (Value.slice p out.length cap).ownBlock = some j ∨ j = n0) W (W2.setCell ⟨n0, 0, none⟩ (.slice (some ⟨g', 0, none⟩) (out.length + 1) cap')) := (hK1.mono fun j _ hj => .inl hj).setCell (p := ⟨n0, 0, none⟩) (.inl (.inr rfl)) _
  have hs2 : (W2.setCell ⟨n0, 0, none⟩ (.slice (some ⟨g', 0, none⟩) (out.length + 1) cap')).heap.size = W2.heap.size := by simp
  have hg'2 := (World.ownsRow.lt hr g' rfl).2
  have hgn : g' ≠ n0 := fun e => by
    rcases hv g' rfl with hx | hx
    · exact hne _ hx e
    · simp at hx; omega
  refine ⟨obj_cell hb2 rfl, fun i => obj_free hb2 i, ⟨⟨some ⟨g', 0, none⟩, cap', ?_, ?_, ?_, ?_⟩, h5⟩, Keeps.of_kp hK2 fun j hj => ⟨hUl j (.inl hj), fun e => ?_⟩⟩
  · rw [List.length_append]
    exact obj_set hb2 0 _
  · have e : (out ++ [x]).length = out.length + 1 := by simp
    rw [e]
    unfold Dd.IRow
    rw [e, List.map_append]
    exact Dd.orow_kept hr fun g hg2 => by
      have : g = g' := by simp [Value.ownBlock] at hg2; exact hg2.symm
      rw [this]
      exact obj_other _ hgn
  · refine h3.kpm hK2 (fun j _ hj => ?_) fun j hj => ?_
    · rcases hj with hj | hj
      · exact .inr (.inr hj)
      · exact .inr (.inl hj)
    · rcases hj with hj | hj | hj
      · exact .inl (.inl hj)
      · exact .inl (.inr (.inl hj))
      · have e : g' = j := by simpa [Value.ownBlock] using hj
        subst e
        rcases hv g' rfl with hx | hx
        · exact .inl (.inr (.inr hx))
        · simp at hx
          exact .inr ⟨by omega, by rw [hs2]; exact hg'2⟩
  · intro g hg2
    have e : g' = g := by simpa [Value.ownBlock] using hg2
    subst e
    rcases hv g' rfl with hx | hx
    · exact ⟨(h4 _ hx).1, (h4 _ hx).2⟩
    · simp at hx
      exact ⟨fun hu => by have := hUl g' (.inl hu); omega, by omega⟩
  · rcases e with e | e
    · exact (h4 j e).1 hj
    · exact h5 (e ▸ hj)
end
end Go.Proofs.YtiehbbhjpcnbnaaGreat
