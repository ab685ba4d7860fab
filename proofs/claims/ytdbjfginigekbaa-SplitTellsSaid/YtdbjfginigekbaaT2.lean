/- One more on a row that grows; the contract of the reference's Fill. -/
import Derived.Test.YtdbjfginigekbaaT1
namespace Go.Proofs.Ytdbjfginigekbaa
open Go.RowKit
set_option linter.unusedVariables false

/-- one element more on a row of the call's own -/
theorem append_row (t e : TypeId) (z : Value) (size bytes : Nat) (ht : Try.prog.underlying t = some (.slice e)) (hinfo : (Try.prog.info? e).map (fun i => (i.zero, i.size, i.bytes)) = some (some z, size, bytes))
    (hzs : z.cells.size = size) (hsz : 0 < size) (hby : bytes ≤ 64) (wr : World) (B : Nat) (v : Value) (n : Nat) (xs : List Value) (hown : wr.ownsRow B e size v n xs) (hB : B ≤ wr.heap.size) (hn : n ≤ 1000000)
    (news : Array Value) (hnz : news.size = size) (hone : ∀ u ∈ news.toList, u.oneCell' = true) :
    ∃ g c w', (Builtin.append_ #[t, t] t #[v, .slice (some ⟨wr.heap.size, 0, none⟩) 1 1]).run Try.prog (wr.alloc (.cells news e)) = .ok (.slice (some ⟨g, 0, none⟩) (n + 1) c) w' ∧
      w'.ownsRow B e size (.slice (some ⟨g, 0, none⟩) (n + 1) c) (n + 1) (xs ++ news.toList) ∧ (wr.alloc (.cells news e)).grownBy w' v.ownBlock ∧ (v.ownBlock = some g ∨ wr.heap.size < g) := by
  obtain ⟨i0, hi, hz0, hz1, hz2⟩ := info_parts hinfo
  obtain ⟨v', w', hrun, hown', hgrow, _⟩ := run_append_own (P := Try.prog) (wr.alloc (.cells news e)) B t t e i0 z size bytes ht hi hz0 hz1 hz2 hzs hsz
    v n xs (hown.alloc _) ⟨wr.heap.size, 0, none⟩ 1 1 news.toList (by simp [hnz]) (by
      intro j u hu
      have ha : (⟨wr.heap.size, 0, none⟩ : Addr).add j = ⟨wr.heap.size, j, none⟩ := by unfold Addr.add; split <;> simp_all
      rw [ha, cell_of_row _ wr.heap.size j news e (0, 0) (heap_alloc_new wr _)]
      simpa using hu) hone (by unfold maxLen; omega) (by
      have : (n + 1) * bytes ≤ 1000001 * 64 := Nat.mul_le_mul (by omega) hby
      omega) (by simp; omega)
  obtain ⟨g, c, rfl⟩ : ∃ g c, v' = .slice (some ⟨g, 0, none⟩) (n + 1) c := by
    rcases hown'.2 with ⟨_, h0⟩ | ⟨g, cap, cur, e, _⟩
    · omega
    · exact ⟨g, cap, e⟩
  refine ⟨g, c, w', hrun, hown', hgrow, ?_⟩
  have hl : Lies (wr.alloc (.cells news e)).heap.size v (.slice (some ⟨g, 0, none⟩) (n + 1) c) := by
    rcases hown.2 with ⟨rfl, _⟩ | ⟨g', cap, cur, rfl, _⟩
    · exact append_lies hrun
    · exact append_lies hrun
  rcases hl with h | ⟨g', hg', h⟩
  · exact Or.inl h.symm
  · right
    simp [Value.ownBlock] at h
    rw [World.size_alloc] at hg'
    omega

theorem info_44 : (Try.prog.info? 44).map (fun i => (i.zero, i.size, i.bytes)) = some (some (.agg #[.bool false, .slice none 0 0]), 2, 32) := by kernel_rfl

/-- a row of ints that grows, by what it holds -/
def Grows (w : World) (B : Nat) (v : Value) (xs : List Int) : Prop := w.ownsRow B 2 1 v xs.length (xs.map (Value.int .i64))
theorem Grows.made (w : World) (B : Nat) (hB : B ≤ w.heap.size) : Grows (w.alloc (.cells #[] 2)) B (.slice (some ⟨w.heap.size, 0, none⟩) 0 0) [] := World.ownsRow_made w #[] 0 hB (by decide) (by simp)
theorem Grows.below {w w' : World} {B n : Nat} {v : Value} {xs : List Int} (h : Grows w B v xs) (hb : Below n w w') (hn : ∀ k, v.ownBlock = some k → k < n) : Grows w' B v xs := by
  refine ⟨h.1, ?_⟩
  rcases h.2 with h0 | ⟨g, cap, cur, rfl, h1, h2, h3⟩
  · exact Or.inl h0
  · exact Or.inr ⟨g, cap, cur, rfl, h1, (hb.block g (hn g rfl)).trans h2, h3⟩
theorem Grows.kept {w w' : World} {B : Nat} {v : Value} {xs : List Int} (h : Grows w B v xs) (hb : Below w.heap.size w w') : Grows w' B v xs := h.below hb fun k hk => (World.ownsRow.lt h k hk).2
theorem Grows.seq {w : World} {B : Nat} {v : Value} {xs : List Int} (h : Grows w B v xs) (ha : ∀ i, Amt (xs.getD i 0)) (hl : xs.length ≤ 4611686018427387904) : ∃ p cap, v = .slice p xs.length cap ∧ Seq64 w p xs.length xs := by
  rcases h.2 with ⟨rfl, h0⟩ | ⟨g, cap, cur, rfl, h1, h2, h3, h4, h5, h6⟩
  · exact ⟨none, 0, by rw [h0], rfl, ha, hl, Or.inl h0⟩
  · refine ⟨_, cap, rfl, rfl, ha, hl, Or.inr ⟨g, 0, rfl, (Array.getElem?_eq_some_iff.1 h2).1, fun i hi => ?_⟩⟩
    rw [Nat.zero_add, World.ownsRow.cellAt h i (by omega), List.getElem?_map, List.getElem?_eq_getElem hi, List.getD_eq_getElem?_getD, List.getElem?_eq_getElem hi]
    rfl
/-- one int more -/
theorem Grows.more {w : World} {B : Nat} {v : Value} {xs : List Int} (h : Grows w B v xs) (hB : B ≤ w.heap.size) (hn : xs.length ≤ 1000000) (d : Int) :
    ∃ g c w', (Builtin.append_ #[22, 22] 22 #[v, .slice (some ⟨w.heap.size, 0, none⟩) 1 1]).run Try.prog (w.alloc (.cells #[.int .i64 d] 2)) = .ok (.slice (some ⟨g, 0, none⟩) (xs.length + 1) c) w' ∧
      Grows w' B (.slice (some ⟨g, 0, none⟩) (xs.length + 1) c) (xs ++ [d]) ∧ (w.alloc (.cells #[.int .i64 d] 2)).grownBy w' v.ownBlock ∧ (v.ownBlock = some g ∨ w.heap.size < g) := by
  obtain ⟨g, c, w', h1, h2, h3, h4⟩ := append_row 22 2 (.int .i64 0) 1 8 Try.underlying22 info_2 rfl (by decide) (by decide) w B v xs.length _ h hB hn #[.int .i64 d] rfl (by simp; rfl)
  refine ⟨g, c, w', h1, ?_, h3, h4⟩
  unfold Grows
  rw [List.length_append, List.map_append]
  exact h2
theorem Grows.bel {w w' : World} {B : Nat} {v : Value} {xs : List Int} (h : Grows w B v xs) (o : Obj) (hg : (w.alloc o).grownBy w' v.ownBlock) (hB : B ≤ w.heap.size) : Below B w w' :=
  ((Below.refl _ _).alloc hB _).grown hg (by simp; omega) (fun k hk => (World.ownsRow.lt h k hk).1)

/-- what the reference's Fill hands back -/
def FiOutR (T : Int) (zs : List Int) (w' : World) (e : Ending) : Prop :=
  (chk T zs ≠ 0 ∧ e = .returned (.tuple #[.slice none 0 0, .int .i64 0, .int .i64 (chk T zs)])) ∨
  (chk T zs = 0 ∧ ∃ p cap, e = .returned (.tuple #[.slice p zs.length cap, .int .i64 (leftAt T zs zs.length), .int .i64 0]) ∧ Seq64 w' p zs.length (fills T zs))

def fillL (T : Int) (zs : List Int) (k : Nat) : List Int := (List.range k).map (fillAt T zs)
theorem fillL_len (T : Int) (zs : List Int) (k : Nat) : (fillL T zs k).length = k := by simp [fillL]
theorem fillL_succ (T : Int) (zs : List Int) (k : Nat) : fillL T zs k ++ [fillAt T zs k] = fillL T zs (k + 1) := by simp [fillL, List.range_succ]

end Go.Proofs.Ytdbjfginigekbaa
