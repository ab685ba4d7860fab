/- A range over a function whose rounds may lie between writes of what the function has in memory. -/
import Derived.Test.YtiehbbhjpcnbnaaGreatSD
namespace Go.Proofs.YtiehbbhjpcnbnaaGreat
open Go.RowKit Go.Shelf
set_option linter.unusedVariables false

theorem wpIn_range_free {n : Nat} {P : Program} {σ α : Type} {g : Operand} {ps : Array Tmp} {assign body : Code} {Q : Exit → Act → World → Prop} {a : Act} {w : World}
    {gf : Nat} {lb : Array Value} (hg : a.eval g = .func (.func gf) #[] lb) (eg : ∀ args w, (callFunc gf args).run P w = .ok (.enter gf args) w)
    {enc : α → Value} (hps : ps.size = 1) (I : σ → List α → World → Prop) (X : σ → Nat → Prop) (ok : α → List α → Prop) (S : σ → List α → World → Prop)
    (hput : ∀ s out W r r', I s out W → W.heap[w.heap.size + 1]? = some (.loop r) → I s out (W.putObj (w.heap.size + 1) (.loop r')))
    (hSput : ∀ s out W r r', S s out W → W.heap[w.heap.size + 1]? = some (.loop r) → S s out (W.putObj (w.heap.size + 1) (.loop r')))
    (a₁ : α → Act)
    (hassign : ∀ (x : α) (W : World) (K : Act → World → Prop), K (a₁ x) W →
      assign.wpIn (Fence.wide.inRound (w.heap.size + 1)) (n - 1 - 1) P (Exit.then K (fun _ _ _ => False)) { tmps := (ps.zip #[enc x]).foldl (fun t (p, v) => t.setIfInBounds p v) a.tmps, defers := [] } W)
    (hbody : ∀ (s : σ) (out : List α) (x : α) (W : World), I s out W → ok x out →
      body.wpIn (Fence.wide.inRound (w.heap.size + 1)) (n - 1 - 1) P (fun e _ W3 => e = .normal ∧ I s (out ++ [x]) W3 ∧ W3.heap[w.heap.size + 1]? = W.heap[w.heap.size + 1]? ∧ Keeps (X s) W W3) (a₁ x) W)
    (hcall : ∀ (R0 : Loop),
      (∀ s out x W, I s out W → W.heap[w.heap.size + 1]? = some (.loop R0) → ok x out → YieldAt Fence.wide (n - 1 - 1) P (w.heap.size + 1) #[enc x] W fun e W' => e = .returned (.bool true) ∧ I s (out ++ [x]) W' ∧ W'.heap[w.heap.size + 1]? = some (.loop R0) ∧ Keeps (X s) W W') →
      CallsIn Fence.wide (n - 1) P gf (#[.func (.yield (w.heap.size + 1)) #[] #[]] ++ lb) ((w.alloc (.deferred (some []))).alloc (.loop R0)) fun e W' => (∃ v, e = .returned v) ∧ ∃ s out, S s out W' ∧ I s out W' ∧ W'.heap[w.heap.size + 1]? = some (.loop R0))
    (hdone : ∀ s out W, S s out W → I s out W → Q .normal { a with defers := { target := .collected w.heap.size, args := #[] } :: a.defers } W) :
    (Code.rangeFunc g ps assign body).wpIn Fence.wide n P Q a w := by
  refine wpIn_rangeFunc ?_
  intro fn hfn
  obtain ⟨rec, hrec⟩ : ∃ rec : LoopState → Option Code → Loop, rec = fun st pe => { state := st, pending := pe, fn, tmps := a.tmps, params := ps, assign, body, defers := w.heap.size } := ⟨_, rfl⟩
  refine ⟨w.heap.size + 1, [{ target := .collected w.heap.size, args := #[] }], (w.alloc (.deferred (some []))).alloc (.loop (rec .ready none)), { target := .fn (.func gf) lb, args := #[.func (.yield (w.heap.size + 1)) #[] #[]] }, (w.alloc (.deferred (some []))).alloc (.loop (rec .ready none)), gf,
    #[.func (.yield (w.heap.size + 1)) #[] #[]] ++ lb, (w.alloc (.deferred (some []))).alloc (.loop (rec .ready none)), ?_, ?_, ?_, ?_, (fun h => by simp [Fence.wide] at h), ?_⟩
  · rw [hrec]; exact run_enterLoop_outer _ _ _ _ _
  · simp only [resolve, hg]
    simp [go_sem]
  · intro f' hf'; trivial
  · simp [invoke, go_sem, eg]
  · refine (hcall (rec .ready none) ?_).mono ?_
    · rintro s pre x W hi hl hlen
      have hlt : w.heap.size + 1 < W.heap.size := (Array.getElem?_eq_some_iff.1 hl).1
      have hy := run_yield (P := P) (args := #[enc x]) hl (by rw [hrec]; simp [hps])
      rw [hrec] at hy
      refine ⟨fn, _, assign, body, hy, roundIn_of_wpIn hfn (hassign x W _ ⟨_, run_beginRound hl (by rw [hrec]), ?_⟩)⟩
      have hl2 : (W.putObj (w.heap.size + 1) (.loop { rec .ready none with state := .busy })).heap[w.heap.size + 1]? = some (.loop { rec .ready none with state := .busy }) := World.putObj_heap_same hlt
      refine wpIn_mono (hbody s pre x _ (hput _ _ _ _ _ hi hl) hlen) ?_
      rintro e a3 W3 ⟨rfl, hi3, hl3, hk3⟩
      rw [hl2] at hl3
      have hr := run_endRound (P := P) none hl3
      have hlt3 := (Array.getElem?_eq_some_iff.1 hl3).1
      rw [hrec] at hr
      refine ⟨_, _, hr, rfl, hput _ _ _ _ _ hi3 hl3, ?_, ?_⟩
      · rw [World.putObj_heap_same hlt3, hrec]; rfl
      · refine ⟨hk3.os, hk3.tape, hk3.output, by have := hk3.size; simpa using this, fun j hj => ?_⟩
        by_cases ej : j = w.heap.size + 1
        · subst ej; rw [World.putObj_heap_same hlt3, hl, hrec]; rfl
        · rw [World.putObj_heap_other ej, hk3.at_ j hj, World.putObj_heap_other ej]
    · rintro e W2 ⟨⟨v, rfl⟩, s, out, hS, hi, hl⟩
      exact ⟨none, _, by have := run_endLoop (P := P) hl (by rw [hrec]; simp); rw [hrec] at this; exact this, hdone _ _ _ (hSput _ _ _ _ _ hS hl) (hput _ _ _ _ _ hi hl)⟩

/-- the marks of ranges that are over are taken up -/
theorem leaves_marks {F : Fence} {n : Nat} {P : Program} {fn : Func} {tmps : Array Value} {R : Ending → World → Prop} (Φ : World → Prop) (A : Nat → Prop) (hΦ : ∀ W D, A D → Φ W → W.heap[D]? = some (.deferred (some [])) → Φ (W.putObj D (.deferred none)))
    (hend : ∀ W, Φ W → LeavesIn F n P fn tmps R [] .returning W) : ∀ (Ds : List Nat) (W : World), Ds.Nodup → (∀ D ∈ Ds, A D) → (∀ D ∈ Ds, W.heap[D]? = some (.deferred (some []))) → Φ W → LeavesInM F n P fn tmps R (Ds.map fun D => { target := .collected D, args := #[] }) .returning W
  | [], W, _, _, _, h => hend W h
  | D :: Ds, W, hn, ha, hd, h => by
    obtain ⟨n1, n2⟩ := List.nodup_cons.1 hn
    have hD := hd D (by simp)
    refine ⟨by simp, .inl ⟨D, _, rfl, run_takeDeferred hD, ?_⟩⟩
    exact leaves_marks Φ A hΦ hend Ds _ n2 (fun E hE => ha E (by simp [hE])) (fun E hE => by
      have : E ≠ D := fun e => n1 (e ▸ hE)
      rw [World.putObj_heap_other this]; exact hd E (by simp [hE])) (hΦ W D (ha D (by simp)) h hD)

theorem kp_put (W : World) (l : Nat) (o : Obj) : Kp (fun j => j = l) W (W.putObj l o) := ⟨rfl, rfl, rfl, by simp, fun j _ hj => World.putObj_heap_other hj⟩
/-- a box that holds a slice of ints, beside a guard and a book -/
structure Jb (c : GC) (n0 : Nat) (U : Nat → Prop) (s : ST) (out : List Int) (W : World) : Prop where
  row : ∃ p cap, W.heap[n0]? = some (.cells #[.slice p out.length cap] 39 (0, 0)) ∧ Dd.IRow W (.slice p out.length cap) out ∧ PS (fun j => U j ∨ j = n0 ∨ (Value.slice p out.length cap).ownBlock = some j) c s W ∧ (∀ g, (Value.slice p out.length cap).ownBlock = some g → ¬ U g ∧ n0 ≤ g)
  nU : ¬ U n0
section
variable {c : GC} {n0 : Nat} {U U' : Nat → Prop} {s : ST} {out : List Int} {W W' : World}
theorem Jb.ps (h : Jb c n0 U s out W) : PS U c s W := by
  obtain ⟨⟨p, cap, h1, h2, h3, h4⟩, h5⟩ := h
  exact h3.less fun j hj => .inl hj
theorem irow_kept {W W' : World} {v : Value} {zs : List Int} (h : Dd.IRow W v zs) (hb : ∀ g, v.ownBlock = some g → W'.heap[g]? = W.heap[g]?) : Dd.IRow W' v zs := Dd.orow_kept h hb
theorem Jb.more (h : Jb c n0 U s out W) (hb : Below W.heap.size W W') (hU : ∀ j, U' j → U j ∨ (W.heap.size ≤ j ∧ j < W'.heap.size)) : Jb c n0 U' s out W' := by
  obtain ⟨⟨p, cap, h1, h2, h3, h4⟩, h5⟩ := h
  have hl : ∀ g, (Value.slice p out.length cap).ownBlock = some g → g < W.heap.size := fun g hg => (World.ownsRow.lt h2 g hg).2
  refine ⟨⟨p, cap, (hb.block _ (obj_lt h1)).trans h1, irow_kept h2 fun g hg => hb.block g (hl g hg), h3.more hb (fun j hj => ?_), fun g hg => ⟨fun hu => ?_, (h4 g hg).2⟩⟩, fun hu => ?_⟩
  · rcases hj with hj | hj
    · exact (hU j hj).imp .inl id
    · exact .inl (.inr hj)
  · rcases hU g hu with e | e
    · exact (h4 g hg).1 e
    · have := hl g hg; omega
  · rcases hU _ hu with e | e
    · exact h5 e
    · have := obj_lt h1; omega
theorem Jb.tryc (h : Jb c n0 U s out W) {id : Int} (hid : In64 id) : Calls Tryz.prog 18 #[.pointer (some ⟨c.gb, 0, none⟩), .pointer (some ⟨c.kb, 0, none⟩), .int .i64 id] W fun e W' => e = .returned (.int .i64 (tryS s id).1) ∧ Jb c n0 U (tryS s id).2 out W' ∧ Keeps U W W' := by
  obtain ⟨⟨p, cap, h1, h2, h3, h4⟩, h5⟩ := h
  have hlt := h3.lt
  refine (h3.tryc hid).mono fun e w' ⟨e1, e2, e3⟩ => ⟨e1, ⟨⟨p, cap, ?_, ?_, e2, h4⟩, h5⟩, Keeps.of_kp e3 fun j hj => ⟨hlt j (.inl hj), fun hn => hn (.inl hj)⟩⟩
  · exact (e3.block _ (obj_lt h1) fun hn => hn (.inr (.inl rfl))).trans h1
  · exact irow_kept h2 fun g hg => e3.block g (World.ownsRow.lt h2 g hg).2 fun hn => hn (.inr (.inr hg))
/-- a write to what stays and is none of the box -/
theorem Jb.put (h : Jb c n0 U s out W) {l : Nat} (hl : U l) (o : Obj) : Jb c n0 U s out (W.putObj l o) := by
  obtain ⟨⟨p, cap, h1, h2, h3, h4⟩, h5⟩ := h
  have hk := kp_put W l o
  refine ⟨⟨p, cap, ?_, irow_kept h2 fun g hg => ?_, h3.kp hk fun j _ e => by rw [e]; exact .inl hl, h4⟩, h5⟩
  · rw [World.putObj_heap_other (by rintro rfl; exact h5 hl)]; exact h1
  · exact World.putObj_heap_other (by rintro rfl; exact (h4 _ hg).1 hl)
end
end Go.Proofs.YtiehbbhjpcnbnaaGreat
