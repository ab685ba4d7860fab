/- Rows that grow by append: where they lie, and what they hold.
  One more on a row that grows; the contract of the reference's Fill.
  Bigs in boxes and in rows; what leaves rows of digits alone. -/
import Derived.Test.YthocnlalahknjaaGreatQSc
import Derived.Test.YthocnlalahknjaaGreatQXa
import Derived.Test.YthocnlalahknjaaGreatQXb
namespace Go.Proofs.YthocnlalahknjaaGreat
open Go.RowKit
set_option linter.unusedVariables false

/-- each answer of the tree is such, where a block that is made before anything is written is numbered from S on -/
def Leaf2 (S : Nat) {α : Type} (Q : α → Prop) : Sem α → Prop
  | .pure a => Q a
  | .load _ _ k => ∀ v, Leaf2 S Q (k v)
  | .store _ _ _ k => Leaf Q k
  | .new _ k => ∀ n, S ≤ n → Leaf Q (k n)
  | .shape _ k => ∀ s, Leaf2 S Q (k s)
  | .freeze _ _ k => Leaf Q k
  | .frozen _ k => ∀ b, Leaf2 S Q (k b)
  | .getObj _ k => ∀ o, Leaf2 S Q (k o)
  | .setObj _ _ k => Leaf Q k
  | .choose _ k => ∀ n, Leaf2 S Q (k n)
  | .sys _ k => ∀ r, Leaf Q (k r)
  | .program k => ∀ p, Leaf2 S Q (k p)
  | .mark _ k => Leaf2 S Q k
  | .halt _ => True

/-- a tree that writes and makes nothing -/
def Calm {α : Type} : Sem α → Prop
  | .pure _ => True
  | .load _ _ k => ∀ v, Calm (k v)
  | .shape _ k => ∀ s, Calm (k s)
  | .frozen _ k => ∀ b, Calm (k b)
  | .getObj _ k => ∀ o, Calm (k o)
  | .choose _ k => ∀ n, Calm (k n)
  | .program k => ∀ p, Calm (k p)
  | .mark _ k => Calm k
  | .halt _ => True
  | _ => False

theorem Leaf2.bind {S : Nat} {α β : Type} {Q : β → Prop} {s : Sem α} (hs : Calm s) {f : α → Sem β} (hf : ∀ a, Leaf2 S Q (f a)) : Leaf2 S Q (s >>= f) := by
  show Leaf2 S Q (s.bind f)
  induction s with
  | pure a => exact hf a
  | load m a k ih => intro v; exact ih v (hs v)
  | store m a v k ih => exact hs.elim
  | new o k ih => exact hs.elim
  | shape r k ih => intro n; exact ih n (hs n)
  | freeze a n k ih => exact hs.elim
  | frozen a k ih => intro n; exact ih n (hs n)
  | getObj r k ih => intro n; exact ih n (hs n)
  | setObj r o k ih => exact hs.elim
  | choose r k ih => intro n; exact ih n (hs n)
  | sys c k ih => exact hs.elim
  | program k ih => intro n; exact ih n (hs n)
  | mark m k ih => exact ih hs
  | halt h => trivial

theorem Calm.bind {α β : Type} {s : Sem α} (hs : Calm s) {f : α → Sem β} (hf : ∀ a, Calm (f a)) : Calm (s >>= f) := by
  show Calm (s.bind f)
  induction s with
  | pure a => exact hf a
  | load m a k ih => intro v; exact ih v (hs v)
  | store m a v k ih => exact hs.elim
  | new o k ih => exact hs.elim
  | shape r k ih => intro n; exact ih n (hs n)
  | freeze a n k ih => exact hs.elim
  | frozen a k ih => intro n; exact ih n (hs n)
  | getObj r k ih => intro n; exact ih n (hs n)
  | setObj r o k ih => exact hs.elim
  | choose r k ih => intro n; exact ih n (hs n)
  | sys c k ih => exact hs.elim
  | program k ih => intro n; exact ih n (hs n)
  | mark m k ih => exact ih hs
  | halt h => trivial

theorem Leaf2.of {S : Nat} {α : Type} {Q : α → Prop} {s : Sem α} (h : Leaf Q s) : Leaf2 S Q s := by
  induction s with
  | pure a => exact h
  | load m a k ih => intro v; exact ih v (h v)
  | store m a v k ih => exact h
  | new o k ih => intro n _; exact h n
  | shape r k ih => intro n; exact ih n (h n)
  | freeze a n k ih => exact h
  | frozen a k ih => intro n; exact ih n (h n)
  | getObj r k ih => intro n; exact ih n (h n)
  | setObj r o k ih => exact h
  | choose r k ih => intro n; exact ih n (h n)
  | sys c k ih => exact h
  | program k ih => intro n; exact ih n (h n)
  | mark m k ih => exact ih h
  | halt h => trivial

theorem Leaf2.run {S : Nat} {α : Type} {Q : α → Prop} {p : Program} {s : Sem α} (h : Leaf2 S Q s) : ∀ {w a w'}, S ≤ w.heap.size → s.run p w = .ok a w' → Q a := by
  induction s with
  | pure a => intro w b w' _ e; cases e; exact h
  | load m a k ih =>
    intro w b w' hS e
    simp only [Sem.run] at e
    split at e
    · exact ih _ (h _) hS e
    · split at e
      · exact ih _ (h _) hS e
      · cases e
  | store m a v k ih =>
    intro w b w' hS e
    cases v <;> simp only [Sem.run] at e <;> first | cases e | skip
    all_goals
      split at e
      · split at e
        · cases e
        · exact Leaf.run h e
      · split at e
        · exact Leaf.run h e
        · cases e
  | new o k ih => intro w b w' hS e; exact Leaf.run (h w.heap.size hS) e
  | shape r k ih => intro w b w' hS e; exact ih _ (h _) hS e
  | freeze a n k ih => intro w b w' hS e; exact Leaf.run h e
  | frozen a k ih => intro w b w' hS e; exact ih _ (h _) hS e
  | getObj r k ih =>
    intro w b w' hS e
    simp only [Sem.run] at e
    split at e
    · cases e
    · exact ih _ (h _) hS e
    · cases e
  | setObj r o k ih =>
    intro w b w' hS e
    simp only [Sem.run] at e
    split at e
    · cases e
    · exact Leaf.run h e
    · cases e
  | choose q k ih =>
    intro w b w' hS e
    simp only [Sem.run] at e
    split at e
    · exact ih _ (h _) hS e
    · exact ih _ (h _) (w := { w with drawn := w.drawn + 1 }) hS e
  | sys c k ih => intro w b w' hS e; exact Leaf.run (h _) e
  | program k ih => intro w b w' hS e; exact ih _ (h _) hS e
  | mark m k ih => intro w b w' hS e; exact ih h hS e
  | halt e => intro w b w' hS e'; cases e'

theorem calm_underlying (t : TypeId) : Calm (underlying t) := fun p => by
  show Calm (match p.underlying t with | some d => pure d | none => stuck "no such type")
  split <;> trivial
theorem calm_typeInfo (t : TypeId) : Calm (typeInfo t) := fun p => by
  show Calm (match p.info? t with | some i => pure i | none => stuck "no such type")
  split <;> trivial
theorem calm_sizeOf (t : TypeId) : Calm (Go.sizeOf t) := (calm_typeInfo t).bind fun _ => trivial
theorem calm_zeroValue (t : TypeId) : Calm (zeroValue t) := (calm_typeInfo t).bind fun _ => by split <;> trivial
theorem calm_loadCellsFrom (a : Addr) : ∀ n i acc, Calm (loadCellsFrom a i n acc) := by
  intro n
  induction n with
  | zero => intro i acc; trivial
  | succ n ih => intro i acc; exact fun v => ih _ _
theorem calm_firstCells (size n : Nat) (v : Value) : Calm (Builtin.firstCells size n v) := by
  unfold Builtin.firstCells
  split <;> first | trivial | exact calm_loadCellsFrom _ _ _ _
theorem calm_frozen (a : Addr) : Calm (frozen a) := fun _ => trivial
theorem calm_mayShare (size sLen n : Nat) (base : Option Addr) (x : Value) : Calm (Builtin.mayShare size sLen n base x) := by
  have hc : ∀ (a : Addr) (k : Nat), Calm (Builtin.holdsCells a k) := fun a k s => by
    show Calm (match s with | some (_, n) => pure (a.spot.isNone && a.off + k ≤ n) | none => pure false)
    split <;> trivial
  unfold Builtin.mayShare
  have J : ∀ there : Bool, Calm (do
      if !there then return true
      match x with
      | .slice (some b) _ _ => do pure (!(← Builtin.holdsCells b (n * size)) || base.any (·.block == b.block))
      | _ => pure false) := by
    intro there
    split
    · trivial
    · split
      · exact (hc _ _).bind fun _ => trivial
      · trivial
  cases base with
  | none => exact J true
  | some a => exact (hc _ _).bind fun _ => (calm_frozen _).bind fun _ => J _

theorem calm_runtimePanic {α : Type} (m : String) : Calm (runtimePanic (.error m) : Sem α) := fun _ => trivial
theorem calm_asInt (v : Value) : Calm (asInt v) := Calm.bind (by unfold asIntOf; split <;> trivial) fun _ => trivial
theorem calm_askRoom (n : Nat) : Calm (askRoom n) := by unfold askRoom; split <;> trivial
theorem calm_lenOf (v : Value) : Calm (Builtin.lenOf v) := by unfold Builtin.lenOf; split <;> trivial

/-- append's answer lies where the row lay, or in a new block -/
def Lies (S : Nat) (v v' : Value) : Prop := v'.ownBlock = v.ownBlock ∨ ∃ g, S ≤ g ∧ v'.ownBlock = some g

theorem new_leaf (S : Nat) (v : Value) (elem : TypeId) (cs : Array Value) (n c : Nat) : Leaf2 S (Lies S v) (do pure (Value.slice (some (← newRow elem cs)) n c) : Sem Value) := fun g hg => Or.inr ⟨g, hg, rfl⟩

theorem calm_mark (m : Mark) : Calm (mark m) := trivial
theorem calm_unsupported {α : Type} (u : Unsupported) : Calm (unsupported u : Sem α) := trivial
theorem calm_choose (q : Question) : Calm (choose q) := fun _ => trivial
theorem calm_pure {α : Type} (a : α) : Calm (pure a : Sem α) := trivial
theorem calm_ite {α : Type} {c : Prop} [Decidable c] {s t : Sem α} (hs : Calm s) (ht : Calm t) : Calm (if c then s else t) := by split <;> assumption

theorem leaf2_underlying {S : Nat} {α : Type} {Q : α → Prop} {t : TypeId} {f : TypeDesc → Sem α} (h : ∀ d, Leaf2 S Q (f d)) : Leaf2 S Q (underlying t >>= f) := Leaf2.bind (calm_underlying t) h

set_option maxHeartbeats 1000000 in
theorem append_leaf (S : Nat) (t ty : TypeId) (base : Option Addr) (sLen sCap : Nat) (a : Addr) (m c : Nat) :
    Leaf2 S (Lies S (.slice base sLen sCap)) (Builtin.append_ #[t, t] ty #[.slice base sLen sCap, .slice (some a) m c]) := by
  unfold Builtin.append_
  show Leaf2 S _ (underlying t >>= _)
  refine leaf2_underlying fun d => ?_
  split
  · next elem =>
    show Leaf2 S _ (Go.sizeOf _ >>= _)
    refine Leaf2.bind (calm_sizeOf _) fun size => ?_
    show Leaf2 S _ (underlying t >>= _)
    refine leaf2_underlying fun d' => ?_
    refine Leaf2.bind (s := pure _) trivial fun zeros => ?_
    cases zeros
    case true => exact trivial
    case false =>
      have A : ∀ n : Nat, Calm (Builtin.firstCells size n (.slice (some a) m c)) := fun n => calm_firstCells _ _ _
      show Leaf2 S _ (Builtin.lenOf _ >>= _)
      refine Leaf2.bind (calm_lenOf _) fun n => ?_
      show Leaf2 S _ (if sLen + n ≤ sCap then _ else _)
      split
      · show Leaf2 S _ (Builtin.firstCells size n (.slice (some a) m c) >>= _)
        refine Leaf2.bind (A n) fun new => ?_
        cases base
        · exact Or.inl rfl
        · exact Leaf2.of (Leaf.bind _ fun _ => Or.inl rfl)
      · show Leaf2 S _ (typeInfo elem >>= _)
        refine Leaf2.bind (calm_typeInfo _) fun i => ?_
        show Leaf2 S _ (if _ then _ else _)
        split
        · refine Leaf2.bind (calm_runtimePanic _) fun _ => ?_
          refine Leaf2.bind (calm_typeInfo _) fun i => ?_
          show Leaf2 S _ (if _ then _ else _)
          split
          · refine Leaf2.bind ?_ fun _ => Leaf2.bind (calm_choose _) fun _ => Leaf2.bind (calm_typeInfo _) fun _ => Leaf2.bind (calm_askRoom _) fun _ => Leaf2.bind (calm_firstCells _ _ _) fun _ => Leaf2.bind (A n) fun _ => Leaf2.bind (calm_zeroValue _) fun _ => new_leaf S _ _ _ _ _
            refine calm_ite (calm_runtimePanic _) ((calm_mayShare _ _ _ _ _).bind fun _ => calm_ite ((calm_mark _).bind fun _ => calm_unsupported _) (calm_unsupported _))
          · exact Leaf2.bind (calm_choose _) fun _ => Leaf2.bind (calm_typeInfo _) fun _ => Leaf2.bind (calm_askRoom _) fun _ => Leaf2.bind (calm_firstCells _ _ _) fun _ => Leaf2.bind (A n) fun _ => Leaf2.bind (calm_zeroValue _) fun _ => new_leaf S _ _ _ _ _
        · refine Leaf2.bind (calm_typeInfo _) fun i => ?_
          show Leaf2 S _ (if _ then _ else _)
          split
          · refine Leaf2.bind ?_ fun _ => Leaf2.bind (calm_choose _) fun _ => Leaf2.bind (calm_typeInfo _) fun _ => Leaf2.bind (calm_askRoom _) fun _ => Leaf2.bind (calm_firstCells _ _ _) fun _ => Leaf2.bind (A n) fun _ => Leaf2.bind (calm_zeroValue _) fun _ => new_leaf S _ _ _ _ _
            refine calm_ite (calm_runtimePanic _) ((calm_mayShare _ _ _ _ _).bind fun _ => calm_ite ((calm_mark _).bind fun _ => calm_unsupported _) (calm_unsupported _))
          · exact Leaf2.bind (calm_choose _) fun _ => Leaf2.bind (calm_typeInfo _) fun _ => Leaf2.bind (calm_askRoom _) fun _ => Leaf2.bind (calm_firstCells _ _ _) fun _ => Leaf2.bind (A n) fun _ => Leaf2.bind (calm_zeroValue _) fun _ => new_leaf S _ _ _ _ _
  · trivial

theorem append_lies {t ty : TypeId} {base : Option Addr} {sLen sCap : Nat} {a : Addr} {m c : Nat} {P : Program} {w w' : World} {v' : Value} (h : (Builtin.append_ #[t, t] ty #[.slice base sLen sCap, .slice (some a) m c]).run P w = .ok v' w') :
    Lies w.heap.size (.slice base sLen sCap) v' := (append_leaf w.heap.size t ty base sLen sCap a m c).run (Nat.le_refl _) h

end Go.Proofs.YthocnlalahknjaaGreat
namespace Go.Proofs.YthocnlalahknjaaGreat
open Go.RowKit
set_option linter.unusedVariables false

/-- one element more on a row of the call's own -/
theorem append_row (t e : TypeId) (z : Value) (size bytes : Nat) (ht : Tryz.prog.underlying t = some (.slice e)) (hinfo : (Tryz.prog.info? e).map (fun i => (i.zero, i.size, i.bytes)) = some (some z, size, bytes))
    (hzs : z.cells.size = size) (hsz : 0 < size) (hby : bytes ≤ 64) (wr : World) (B : Nat) (v : Value) (n : Nat) (xs : List Value) (hown : wr.ownsRow B e size v n xs) (hB : B ≤ wr.heap.size) (hn : n ≤ 1000000)
    (news : Array Value) (hnz : news.size = size) (hone : ∀ u ∈ news.toList, u.oneCell' = true) :
    ∃ g c w', (Builtin.append_ #[t, t] t #[v, .slice (some ⟨wr.heap.size, 0, none⟩) 1 1]).run Tryz.prog (wr.alloc (.cells news e)) = .ok (.slice (some ⟨g, 0, none⟩) (n + 1) c) w' ∧
      w'.ownsRow B e size (.slice (some ⟨g, 0, none⟩) (n + 1) c) (n + 1) (xs ++ news.toList) ∧ (wr.alloc (.cells news e)).grownBy w' v.ownBlock ∧ (v.ownBlock = some g ∨ wr.heap.size < g) := by
  obtain ⟨i0, hi, hz0, hz1, hz2⟩ := info_parts hinfo
  obtain ⟨v', w', hrun, hown', hgrow, _⟩ := run_append_own (P := Tryz.prog) (wr.alloc (.cells news e)) B t t e i0 z size bytes ht hi hz0 hz1 hz2 hzs hsz
    v n xs (hown.alloc _) ⟨wr.heap.size, 0, none⟩ 1 1 news.toList (by simp [hnz]) (by
      intro j u hu
      have ha : (⟨wr.heap.size, 0, none⟩ : Addr).add j = ⟨wr.heap.size, j, none⟩ := by unfold Addr.add; split <;> simp_all
      rw [ha, cell_of_row _ wr.heap.size j news e (0, 0) (heap_alloc_new wr _)]
      simpa using hu) hone (by unfold maxLen; omega) (by
      have : (n + 1) * bytes ≤ 1000001 * 64 := Nat.mul_le_mul (by omega) hby
      omega) (by simp; omega)
  obtain ⟨g, c, rfl⟩ : ∃ g c, v' = .slice (some ⟨g, 0, none⟩) (n + 1) c := by
    rcases hown'.2 with ⟨_, h0⟩ | ⟨g, cap, cur, e, _⟩
    · omega
    · exact ⟨g, cap, e⟩
  refine ⟨g, c, w', hrun, hown', hgrow, ?_⟩
  have hl : Lies (wr.alloc (.cells news e)).heap.size v (.slice (some ⟨g, 0, none⟩) (n + 1) c) := by
    rcases hown.2 with ⟨rfl, _⟩ | ⟨g', cap, cur, rfl, _⟩
    · exact append_lies hrun
    · exact append_lies hrun
  rcases hl with h | ⟨g', hg', h⟩
  · exact Or.inl h.symm
  · right
    simp [Value.ownBlock] at h
    rw [World.size_alloc] at hg'
    omega

theorem info_44 : (Tryz.prog.info? 79).map (fun i => (i.zero, i.size, i.bytes)) = some (some (.agg #[.bool false, .slice none 0 0]), 2, 32) := by kernel_rfl

/-- a row of ints that grows, by what it holds -/
def Grows (w : World) (B : Nat) (v : Value) (xs : List Int) : Prop := w.ownsRow B 2 1 v xs.length (xs.map (Value.int .i64))
theorem Grows.made (w : World) (B : Nat) (hB : B ≤ w.heap.size) : Grows (w.alloc (.cells #[] 2)) B (.slice (some ⟨w.heap.size, 0, none⟩) 0 0) [] := World.ownsRow_made w #[] 0 hB (by decide) (by simp)
theorem Grows.below {w w' : World} {B n : Nat} {v : Value} {xs : List Int} (h : Grows w B v xs) (hb : Below n w w') (hn : ∀ k, v.ownBlock = some k → k < n) : Grows w' B v xs := by
  refine ⟨h.1, ?_⟩
  rcases h.2 with h0 | ⟨g, cap, cur, rfl, h1, h2, h3⟩
  · exact Or.inl h0
  · exact Or.inr ⟨g, cap, cur, rfl, h1, (hb.block g (hn g rfl)).trans h2, h3⟩
theorem Grows.kept {w w' : World} {B : Nat} {v : Value} {xs : List Int} (h : Grows w B v xs) (hb : Below w.heap.size w w') : Grows w' B v xs := h.below hb fun k hk => (World.ownsRow.lt h k hk).2
theorem Grows.seq {w : World} {B : Nat} {v : Value} {xs : List Int} (h : Grows w B v xs) (ha : ∀ i, Amt (xs.getD i 0)) (hl : xs.length ≤ 4611686018427387904) : ∃ p cap, v = .slice p xs.length cap ∧ Seq64 w p xs.length xs := by
  rcases h.2 with ⟨rfl, h0⟩ | ⟨g, cap, cur, rfl, h1, h2, h3, h4, h5, h6⟩
  · exact ⟨none, 0, by rw [h0], rfl, ha, hl, Or.inl h0⟩
  · refine ⟨_, cap, rfl, rfl, ha, hl, Or.inr ⟨g, 0, rfl, (Array.getElem?_eq_some_iff.1 h2).1, fun i hi => ?_⟩⟩
    rw [Nat.zero_add, World.ownsRow.cellAt h i (by omega), List.getElem?_map, List.getElem?_eq_getElem hi, List.getD_eq_getElem?_getD, List.getElem?_eq_getElem hi]
    rfl
/-- one int more -/
theorem Grows.more {w : World} {B : Nat} {v : Value} {xs : List Int} (h : Grows w B v xs) (hB : B ≤ w.heap.size) (hn : xs.length ≤ 1000000) (d : Int) :
    ∃ g c w', (Builtin.append_ #[50, 50] 50 #[v, .slice (some ⟨w.heap.size, 0, none⟩) 1 1]).run Tryz.prog (w.alloc (.cells #[.int .i64 d] 2)) = .ok (.slice (some ⟨g, 0, none⟩) (xs.length + 1) c) w' ∧
      Grows w' B (.slice (some ⟨g, 0, none⟩) (xs.length + 1) c) (xs ++ [d]) ∧ (w.alloc (.cells #[.int .i64 d] 2)).grownBy w' v.ownBlock ∧ (v.ownBlock = some g ∨ w.heap.size < g) := by
  obtain ⟨g, c, w', h1, h2, h3, h4⟩ := append_row 50 2 (.int .i64 0) 1 8 Tryz.underlying50 info_2 rfl (by decide) (by decide) w B v xs.length _ h hB hn #[.int .i64 d] rfl (by simp; rfl)
  refine ⟨g, c, w', h1, ?_, h3, h4⟩
  unfold Grows
  rw [List.length_append, List.map_append]
  exact h2
theorem Grows.bel {w w' : World} {B : Nat} {v : Value} {xs : List Int} (h : Grows w B v xs) (o : Obj) (hg : (w.alloc o).grownBy w' v.ownBlock) (hB : B ≤ w.heap.size) : Below B w w' :=
  ((Below.refl _ _).alloc hB _).grown hg (by simp; omega) (fun k hk => (World.ownsRow.lt h k hk).1)

/-- what the reference's Fill hands back -/
def FiOutR (T : Int) (zs : List Int) (w' : World) (e : Ending) : Prop :=
  (chk T zs ≠ 0 ∧ e = .returned (.tuple #[.slice none 0 0, .int .i64 0, .int .i64 (chk T zs)])) ∨
  (chk T zs = 0 ∧ ∃ p cap, e = .returned (.tuple #[.slice p zs.length cap, .int .i64 (leftAt T zs zs.length), .int .i64 0]) ∧ Seq64 w' p zs.length (fills T zs))

def fillL (T : Int) (zs : List Int) (k : Nat) : List Int := (List.range k).map (fillAt T zs)
theorem fillL_len (T : Int) (zs : List Int) (k : Nat) : (fillL T zs k).length = k := by simp [fillL]
theorem fillL_succ (T : Int) (zs : List Int) (k : Nat) : fillL T zs k ++ [fillAt T zs k] = fillL T zs (k + 1) := by simp [fillL, List.range_succ]

end Go.Proofs.YthocnlalahknjaaGreat
namespace Go.Proofs.YthocnlalahknjaaGreat
open Go.RowKit
set_option linter.unusedVariables false

/-- no block of ints has turned -/
def Keep3 (W W' : World) : Prop := ∀ (b : Nat) (cur : Array Value) (fr : Nat × Nat), W.heap[b]? = some (Obj.cells cur 3 fr) → W'.heap[b]? = some (Obj.cells cur 3 fr)
theorem Keep3.refl (W : World) : Keep3 W W := fun _ _ _ h => h
theorem Keep3.trans {a b c : World} (h : Keep3 a b) (k : Keep3 b c) : Keep3 a c := fun b cur fr e => k b cur fr (h b cur fr e)
theorem Keep3.below {W W' : World} (h : Below W.heap.size W W') : Keep3 W W' := fun b cur fr e => (h.block b (Array.getElem?_eq_some_iff.1 e).1).trans e
theorem Keep3.set {W : World} {a : Addr} (u : Value) (h : ∀ cur fr, W.heap[a.block]? ≠ some (.cells cur 3 fr)) : Keep3 W (W.setCell a u) := fun b cur fr e => by
  have hne : b ≠ a.block := fun hb => h cur fr (by rw [← hb]; exact e)
  exact (Below.heap_setCell W a u b hne).trans e
theorem Keep3.grown {W W' : World} {row : Option Nat} (hg : W.grownBy W' row) (h : ∀ k, row = some k → ∀ cur fr, W.heap[k]? ≠ some (.cells cur 3 fr)) : Keep3 W W' := fun b cur fr e => by
  refine (hg.block b (Array.getElem?_eq_some_iff.1 e).1 fun hr => ?_).trans e
  exact h b hr.symm cur fr e
theorem Keep3.drow {W W' : World} {p : Option Addr} {len : Nat} {ds : List Int} (h : Keep3 W W') (hd : DRow W p len ds) : DRow W' p len ds := by
  obtain ⟨h1, h2, h4⟩ := hd
  refine ⟨h1, h2, ?_⟩
  rcases h4 with h4 | ⟨b, off, e, ⟨cur, fr, hb⟩, hc⟩
  · exact .inl h4
  · have hb' := h b cur fr hb
    refine .inr ⟨b, off, e, ⟨cur, fr, hb'⟩, fun i hi => ?_⟩
    rw [World.cell?_of_block (w := W) (a := ⟨b, off + i, none⟩) (hb'.trans hb.symm)]
    exact hc i hi
theorem Keep3.isB {W W' : World} {v : Value} {L : Nat} {N : Int} (h : Keep3 W W') (hv : IsB W v L N) : IsB W' v L N := by
  obtain ⟨neg, p, len, cap, ds, h1, h2, h3⟩ := hv
  exact ⟨neg, p, len, cap, ds, h1, h.drow h2, h3⟩

/-- a Big in block b -/
def BigAt (W : World) (b L : Nat) (N : Int) (n : Bool) (p : Option Addr) (l c : Nat) : Prop :=
  W.heap[b]? = some (.cells #[.bool n, .slice p l c] 79 (0, 0)) ∧ IsB W (.agg #[.bool n, .slice p l c]) L N
theorem BigAt.lt {W : World} {b L : Nat} {N : Int} {n : Bool} {p : Option Addr} {l c : Nat} (h : BigAt W b L N n p l c) : b < W.heap.size := (Array.getElem?_eq_some_iff.1 h.1).1
theorem BigAt.kept {W W' : World} {b L : Nat} {N : Int} {n : Bool} {p : Option Addr} {l c : Nat} (h : BigAt W b L N n p l c) (hb : Below W.heap.size W W') : BigAt W' b L N n p l c :=
  ⟨(hb.block b h.lt).trans h.1, h.2.kept hb⟩
theorem BigAt.moved {W W' : World} {b L : Nat} {N : Int} {n : Bool} {p : Option Addr} {l c : Nat} (h : BigAt W b L N n p l c) (he : W'.heap[b]? = W.heap[b]?) (hk : Keep3 W W') : BigAt W' b L N n p l c := ⟨he.trans h.1, hk.isB h.2⟩
theorem BigAt.c0 {W : World} {b L : Nat} {N : Int} {n : Bool} {p : Option Addr} {l c : Nat} (h : BigAt W b L N n p l c) : W.cell? ⟨b, 0, none⟩ = some (.bool n) := by rw [cell_of_row W b 0 _ 79 (0, 0) h.1]; rfl
theorem BigAt.c1 {W : World} {b L : Nat} {N : Int} {n : Bool} {p : Option Addr} {l c : Nat} (h : BigAt W b L N n p l c) : W.cell? ⟨b, 1, none⟩ = some (.slice p l c) := by rw [cell_of_row W b 1 _ 79 (0, 0) h.1]; rfl
theorem BigAt.f {W : World} {b L : Nat} {N : Int} {n : Bool} {p : Option Addr} {l c i : Nat} (h : BigAt W b L N n p l c) : W.frozen? ⟨b, i, none⟩ = false := by have := h.1; simp [World.frozen?, this]
/-- a Big is laid into a block -/
theorem BigAt.put {W : World} {b L L' : Nat} {N N' : Int} {n n' : Bool} {p p' : Option Addr} {l c l' c' : Nat} (h : W.heap[b]? = some (.cells #[.bool n, .slice p l c] 79 (0, 0))) (hv : IsB W (.agg #[.bool n', .slice p' l' c']) L' N') :
    BigAt ((W.setCell ⟨b, 0, none⟩ (.bool n')).setCell ⟨b, 1, none⟩ (.slice p' l' c')) b L' N' n' p' l' c' ∧ Keep3 W ((W.setCell ⟨b, 0, none⟩ (.bool n')).setCell ⟨b, 1, none⟩ (.slice p' l' c')) ∧
      ∀ k, k ≠ b → ((W.setCell ⟨b, 0, none⟩ (.bool n')).setCell ⟨b, 1, none⟩ (.slice p' l' c')).heap[k]? = W.heap[k]? := by
  have hk : Keep3 W ((W.setCell ⟨b, 0, none⟩ (.bool n')).setCell ⟨b, 1, none⟩ (.slice p' l' c')) := by
    refine (Keep3.set _ fun cur fr e => ?_).trans (Keep3.set _ fun cur fr e => ?_)
    · rw [h] at e; cases e
    · simp [World.setCell, Array.getElem?_modify, h] at e
  refine ⟨⟨?_, hk.isB hv⟩, hk, fun k hne => ?_⟩
  · simp [World.setCell, Array.getElem?_modify, h]
  · rw [Below.heap_setCell _ _ _ k hne, Below.heap_setCell _ _ _ k hne]
/-- the two cells of a new Big -/
theorem BigAt.made (W : World) (n : Bool) (p : Option Addr) (l c : Nat) : (W.alloc (.cells #[.bool n, .slice p l c] 79)).heap[W.heap.size]? = some (.cells #[.bool n, .slice p l c] 79 (0, 0)) := heap_alloc_new W _

/-- a row of Bigs that grows -/
def Lefts (W : World) (B : Nat) (v : Value) (rs : List Int) (bs : List (Bool × Option Addr × Nat × Nat)) : Prop :=
  bs.length = rs.length ∧ W.ownsRow B 79 2 v rs.length (bs.flatMap fun x => [Value.bool x.1, Value.slice x.2.1 x.2.2.1 x.2.2.2]) ∧
  ∀ i x, bs[i]? = some x → IsB W (.agg #[.bool x.1, .slice x.2.1 x.2.2.1 x.2.2.2]) 20 (rs.getD i 0)
theorem Lefts.made (w : World) (B : Nat) (hB : B ≤ w.heap.size) : Lefts (w.alloc (.cells #[] 79)) B (.slice (some ⟨w.heap.size, 0, none⟩) 0 0) [] [] :=
  ⟨rfl, World.ownsRow_made w #[] 0 hB (by decide) (by simp), fun i x h => by simp at h⟩
theorem Lefts.moved {W W' : World} {B : Nat} {v : Value} {rs : List Int} {bs : List (Bool × Option Addr × Nat × Nat)} (h : Lefts W B v rs bs) (hk : Keep3 W W') (hb : ∀ k, v.ownBlock = some k → W'.heap[k]? = W.heap[k]?) : Lefts W' B v rs bs := by
  refine ⟨h.1, ⟨h.2.1.1, ?_⟩, fun i x hx => hk.isB (h.2.2 i x hx)⟩
  rcases h.2.1.2 with h0 | ⟨g, cap, cur, rfl, h1, h2, h3⟩
  · exact Or.inl h0
  · exact Or.inr ⟨g, cap, cur, rfl, h1, (hb g rfl).trans h2, h3⟩
theorem Lefts.kept {W W' : World} {B : Nat} {v : Value} {rs : List Int} {bs : List (Bool × Option Addr × Nat × Nat)} (h : Lefts W B v rs bs) (hb : Below W.heap.size W W') : Lefts W' B v rs bs :=
  h.moved (Keep3.below hb) fun k hk => hb.block k (World.ownsRow.lt h.2.1 k hk).2
theorem Lefts.not3 {W : World} {B : Nat} {v : Value} {rs : List Int} {bs : List (Bool × Option Addr × Nat × Nat)} (h : Lefts W B v rs bs) : ∀ k, v.ownBlock = some k → ∃ cur, W.heap[k]? = some (.cells cur 79 (0, 0)) := by
  intro k hk
  rcases h.2.1.2 with ⟨rfl, _⟩ | ⟨g, cap, cur, rfl, h1, h2, h3⟩
  · cases hk
  · simp [Value.ownBlock] at hk; subst hk; exact ⟨cur, h2⟩
theorem Grows.is2 {W : World} {B : Nat} {v : Value} {xs : List Int} (h : Grows W B v xs) : ∀ k, v.ownBlock = some k → ∃ cur, W.heap[k]? = some (.cells cur 2 (0, 0)) := by
  intro k hk
  rcases h.2 with ⟨rfl, _⟩ | ⟨g, cap, cur, rfl, h1, h2, h3⟩
  · cases hk
  · simp [Value.ownBlock] at hk; subst hk; exact ⟨cur, h2⟩
theorem flat_two (f g : Bool × Option Addr × Nat × Nat → Value) : ∀ (bs : List (Bool × Option Addr × Nat × Nat)) (i : Nat) (x : Bool × Option Addr × Nat × Nat), bs[i]? = some x →
    (bs.flatMap fun x => [f x, g x])[i * 2]? = some (f x) ∧ (bs.flatMap fun x => [f x, g x])[i * 2 + 1]? = some (g x) := by
  intro bs
  induction bs with
  | nil => intro i x h; simp at h
  | cons b bs ih =>
    intro i x h
    cases i with
    | zero => simp at h; subst h; simp
    | succ i =>
      have := ih i x (by simpa using h)
      rw [show (i + 1) * 2 = i * 2 + 1 + 1 from by omega]
      simpa using this
/-- a Big of the row -/
theorem Lefts.at {W : World} {B g cap i : Nat} {rs : List Int} {bs : List (Bool × Option Addr × Nat × Nat)} (h : Lefts W B (.slice (some ⟨g, 0, none⟩) rs.length cap) rs bs) (hi : i < rs.length) :
    ∃ n p l c, W.cell? ⟨g, i * 2, none⟩ = some (.bool n) ∧ W.cell? ⟨g, i * 2 + 1, none⟩ = some (.slice p l c) ∧ IsB W (.agg #[.bool n, .slice p l c]) 20 (rs.getD i 0) := by
  have hb : bs[i]? = some (bs[i]'(by rw [h.1]; exact hi)) := List.getElem?_eq_getElem _
  generalize bs[i]'(by rw [h.1]; exact hi) = x at hb
  obtain ⟨n, p, l, c⟩ := x
  obtain ⟨h1, h2⟩ := flat_two (fun x => Value.bool x.1) (fun x => Value.slice x.2.1 x.2.2.1 x.2.2.2) bs i _ hb
  refine ⟨n, p, l, c, ?_, ?_, h.2.2 i _ hb⟩
  · rw [World.ownsRow.cellAt h.2.1 (i * 2) (by omega)]; exact h1
  · rw [World.ownsRow.cellAt h.2.1 (i * 2 + 1) (by omega)]; exact h2
/-- one Big more -/
theorem Lefts.more {W : World} {B : Nat} {v : Value} {rs : List Int} {bs : List (Bool × Option Addr × Nat × Nat)} (h : Lefts W B v rs bs) (hB : B ≤ W.heap.size) (hn : rs.length ≤ 1000000) (n : Bool) (p : Option Addr) (l c : Nat) (r : Int)
    (hv : IsB W (.agg #[.bool n, .slice p l c]) 20 r) :
    ∃ g cc w', (Builtin.append_ #[154, 154] 154 #[v, .slice (some ⟨W.heap.size, 0, none⟩) 1 1]).run Tryz.prog (W.alloc (.cells #[.bool n, .slice p l c] 79)) = .ok (.slice (some ⟨g, 0, none⟩) (rs.length + 1) cc) w' ∧
      Lefts w' B (.slice (some ⟨g, 0, none⟩) (rs.length + 1) cc) (rs ++ [r]) (bs ++ [(n, p, l, c)]) ∧ (W.alloc (.cells #[.bool n, .slice p l c] 79)).grownBy w' v.ownBlock ∧ (v.ownBlock = some g ∨ W.heap.size < g) ∧ Keep3 W w' ∧ Below B W w' := by
  obtain ⟨g, cc, w', h1, h2, h3, h4⟩ := append_row 154 79 (.agg #[.bool false, .slice none 0 0]) 2 32 Tryz.underlying154 info_44 rfl (by decide) (by decide) W B v rs.length _ h.2.1 hB hn #[.bool n, .slice p l c] rfl (by simp; exact ⟨rfl, rfl⟩)
  have hal : Below W.heap.size W (W.alloc (.cells #[.bool n, .slice p l c] 79)) := (Below.refl _ _).alloc (Nat.le_refl _) _
  have hk : Keep3 W w' := (Keep3.below hal).trans (Keep3.grown h3 fun k hk cur fr e => by
    obtain ⟨cur', e'⟩ := h.not3 k hk
    have := hal.block k (World.ownsRow.lt h.2.1 k hk).2
    rw [this, e'] at e; cases e)
  refine ⟨g, cc, w', h1, ⟨by simp [h.1], ?_, fun i x hx => ?_⟩, h3, h4, hk, ((Below.refl _ _).alloc hB _).grown h3 (by simp; omega) (fun k hk => (World.ownsRow.lt h.2.1 k hk).1)⟩
  · rw [List.length_append, List.flatMap_append]
    exact h2
  · by_cases hi : i < bs.length
    · rw [List.getElem?_append_left hi] at hx
      have := hk.isB (h.2.2 i x hx)
      rwa [List.getD_eq_getElem?_getD, List.getElem?_append_left (by rw [← h.1]; exact hi), ← List.getD_eq_getElem?_getD]
    · rw [List.getElem?_append_right (by omega)] at hx
      have hib : i = bs.length := by
        have := (List.getElem?_eq_some_iff.1 hx).1
        simp at this; omega
      subst hib
      simp at hx
      subst hx
      have hle := h.1
      rw [List.getD_eq_getElem?_getD, List.getElem?_append_right (by omega)]
      have : bs.length - rs.length = 0 := by rw [h.1]; omega
      rw [this]
      exact hk.isB hv

end Go.Proofs.YthocnlalahknjaaGreat
