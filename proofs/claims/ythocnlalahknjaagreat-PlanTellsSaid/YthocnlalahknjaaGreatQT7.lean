/- The walk of the law MoneyParts: it returns true for every three amounts, down and up.
  The contract of the reference's Even, by that of its Shares.
  The state of the reference's Shares, and who gets one more. -/
import Derived.Test.YthocnlalahknjaaGreatQV5
import Derived.Test.YthocnlalahknjaaGreatB2
import Derived.Test.YthocnlalahknjaaGreatQXc
import Derived.Deep.LoopGhost
namespace Go.Proofs.YthocnlalahknjaaGreat
open Go.RowKit
set_option linter.unusedVariables false

/-- a quotient of exact numbers, down or up -/
theorem divB_any (v v' : Value) (L L' : Nat) (N N' : Int) (up : Bool) (w : World) (h : IsB w v L N) (h' : IsB w v' L' N') (hL : L ≤ 100) (hL' : L' ≤ 100) (hpos : 0 < N') :
    Calls Tryz.prog 95 #[v, v', .bool up] w (RetB w (L + 6) (divR N N' up)) := by
  obtain ⟨na, pa, la, ca, da, rfl, ha, _, _, hla, hN, _⟩ := h
  obtain ⟨nb, pb, lb, cb, db, rfl, hb, hlc, hpc, hlb, hN', hz, hz'⟩ := h'
  have hv := (val_bd hb.2.1).1
  cases nb
  · have hV : val db = N' := hN'
    refine (div_walk na up pa pb la lb ca cb da db (val da) N' w ha hb (by omega) (by omega) hlc hpc hz' rfl hV hpos).mono fun e w' hr => hr.more (by omega) ?_
    rw [hN]
  · exfalso
    unfold sgB at hN'
    simp at hN'
    omega

end Go.Proofs.YthocnlalahknjaaGreat
namespace Go.Proofs.YthocnlalahknjaaGreat
open Go.RowKit
set_option linter.unusedVariables false

/-- what the reference's Shares hands back -/
def ShOutR (T : Int) (zs : List Int) (w' : World) (e : Ending) : Prop :=
  (shE T zs ≠ 0 ∧ e = .returned (.tuple #[.slice none 0 0, .int .i64 (shE T zs)])) ∨
  (shE T zs = 0 ∧ ∃ p cap, e = .returned (.tuple #[.slice p zs.length cap, .int .i64 0]) ∧ Seq64 w' p zs.length (shares T zs))
/-- the reference's Shares keeps its contract -/
def SharesR : Prop := ∀ (T : Int) (p : Option Addr) (len cap : Nat) (zs : List Int) (w : World), Amt T → Seq64 w p len zs →
  Calls Tryz.prog 68 #[.int .i64 T, .slice p len cap] w fun e w' => Below w.heap.size w w' ∧ ShOutR T zs w' e

/-- what the reference's Even hands back -/
def EvOutR (T n : Int) (w' : World) (e : Ending) : Prop :=
  (64 < n ∧ e = .returned (.tuple #[.slice none 0 0, .int .i64 4])) ∨ (n ≤ 64 ∧ (T < 0 ∨ n < 1) ∧ e = .returned (.tuple #[.slice none 0 0, .int .i64 1])) ∨
  (∃ m : Nat, n = m ∧ 1 ≤ m ∧ m ≤ 64 ∧ 0 ≤ T ∧ ShOutR T (List.replicate m 1) w' e)

set_option maxHeartbeats 4000000 in
set_option maxRecDepth 100000 in
theorem evenR_any (hSh : SharesR) (T n : Int) (w : World) (hT : Amt T) (hn : Amt n) :
    Calls Tryz.prog 37 #[.int .i64 T, .int .i64 n] w fun e w' => Below w.heap.size w w' ∧ EvOutR T n w' e := by
  have hT' := Lib.hid hT
  replace hSh := Lib.hid hSh
  obtain ⟨t0, t1⟩ := hT
  obtain ⟨n0, n1⟩ := hn
  by_cases h64 : 64 < n
  · go_enter Tryz.func37, Tryz.ntmps37
    go_wp2_with fail
    go_ret2
    exact ⟨Below.refl _ _, Or.inl ⟨h64, rfl⟩⟩
  · by_cases hneg : T < 0
    · go_enter Tryz.func37, Tryz.ntmps37
      go_wp2_with fail
      go_ret2
      exact ⟨Below.refl _ _, Or.inr (Or.inl ⟨by omega, Or.inl hneg, rfl⟩)⟩
    · by_cases h1 : n < 1
      · go_enter Tryz.func37, Tryz.ntmps37
        go_wp2_with fail
        go_ret2
        exact ⟨Below.refl _ _, Or.inr (Or.inl ⟨by omega, Or.inr h1, rfl⟩)⟩
      · obtain ⟨m, rfl⟩ := Int.eq_ofNat_of_zero_le (by omega : 0 ≤ n)
        go_enter Tryz.func37, Tryz.ntmps37
        go_upto_region 7 with (fail)
        go_loopw [6, 7] (fun o i wr => ∃ k : Nat, k ≤ m ∧ i = .int .i64 k ∧ Grows wr w.heap.size o (List.replicate k 1) ∧ Below w.heap.size w wr) (fun _ i _ => m - (intOf i).toNat)
        case atStart => exact ⟨0, by omega, rfl, Grows.made w w.heap.size (Nat.le_refl _), (Below.refl _ _).alloc (Nat.le_refl _) _⟩
        case round =>
          obtain ⟨k, hk, rfl, hgr, hbel⟩ := hrel
          by_cases hlt : k < m
          · obtain ⟨g, c, w', hrun, hgr', hgw, hlie⟩ := hgr.more hbel.size (by simp; omega) 1
            have hbel' := hgr.bel _ hgw hbel.size
            have e1 : List.replicate k (1 : Int) ++ [1] = List.replicate (k + 1) 1 := by rw [List.replicate_succ']
            rw [e1] at hgr'
            rw [List.length_replicate] at hrun hgr'
            have hkz : (k : Int) < (m : Int) := by omega
            replace hrun := Lib.hid hrun
            replace hgr := Lib.hid hgr
            replace hgr' := Lib.hid hgr'
            replace hbel := Lib.hid hbel
            replace hbel' := Lib.hid hbel'
            clear hgw hlie e1
            go_wp2_with (at_builtin; refine wpList_app rfl _ _ _ _ rfl _ _ _ _ rfl rfl hrun.out ?_)
            exact ⟨⟨k + 1, by omega, by go_num, hgr'.out, hbel.out.trans hbel'.out⟩, by simp [intOf]; omega⟩
          · have hkm : k = m := by omega
            subst hkm
            obtain ⟨p', cap', rfl, hseq⟩ := hgr.seq (ones_amt k) (by simp; omega)
            rw [List.length_replicate] at hseq ⊢
            have hcon := hSh.out T p' k cap' (List.replicate k 1) wr hT'.out hseq
            replace hbel := Lib.hid hbel
            clear hgr hseq
            go_wp2_with (first | (go_at_call 68; (with_reducible refine hcon.mono ?_); rintro e w3 ⟨hb3, hout⟩; rcases hout with ⟨hE, rfl⟩ | ⟨hE, p2, cap2, rfl, hI⟩))
            · go_ret2
              exact ⟨hbel.out.trans (hb3.mono hbel.out.size), Or.inr (Or.inr ⟨k, rfl, by omega, by omega, by omega, Or.inl ⟨hE, rfl⟩⟩)⟩
            · go_ret2
              exact ⟨hbel.out.trans (hb3.mono hbel.out.size), Or.inr (Or.inr ⟨k, rfl, by omega, by omega, by omega, Or.inr ⟨hE, p2, cap2, by rw [List.length_replicate]; rfl, hI⟩⟩)⟩

end Go.Proofs.YthocnlalahknjaaGreat
namespace Go.Proofs.YthocnlalahknjaaGreat
open Go.RowKit
set_option linter.unusedVariables false

theorem ne_block {W : World} {a b : Nat} {cur cur' : Array Value} {t t' : TypeId} {fr fr' : Nat × Nat} (h : W.heap[a]? = some (.cells cur t fr)) (h' : W.heap[b]? = some (.cells cur' t' fr')) (ht : t ≠ t') : a ≠ b := by
  rintro rfl
  rw [h] at h'
  simp at h'
  exact ht h'.2.1
theorem Grows.moved {W W' : World} {B : Nat} {v : Value} {xs : List Int} (h : Grows W B v xs) (hb : ∀ k, v.ownBlock = some k → W'.heap[k]? = W.heap[k]?) : Grows W' B v xs := by
  refine ⟨h.1, ?_⟩
  rcases h.2 with h0 | ⟨g, cap, cur, rfl, h1, h2, h3⟩
  · exact Or.inl h0
  · exact Or.inr ⟨g, cap, cur, rfl, h1, (hb g rfl).trans h2, h3⟩

/-- what the reference's Shares holds while it works -/
structure RSt (w W : World) (b8 b13 : Nat) (S G : Int) (out left : Value) (xs rs : List Int) : Prop where
  bel : Below w.heap.size w W
  s8 : ∃ n p l c, BigAt W b8 70 S n p l c
  s13 : ∃ n p l c, BigAt W b13 6 G n p l c
  hout : Grows W w.heap.size out xs
  hleft : ∃ bs, Lefts W w.heap.size left rs bs
  n8 : left.ownBlock ≠ some b8
  n13 : left.ownBlock ≠ some b13
  ne : b8 ≠ b13
  lo13 : w.heap.size ≤ b13
theorem RSt.moved {w W W' : World} {b8 b13 : Nat} {S G : Int} {out left : Value} {xs rs : List Int} (h : RSt w W b8 b13 S G out left xs rs) (hbel : Below w.heap.size w W') (hk : Keep3 W W') (h8 : W'.heap[b8]? = W.heap[b8]?) (h13 : W'.heap[b13]? = W.heap[b13]?)
    (ho : ∀ k, out.ownBlock = some k → W'.heap[k]? = W.heap[k]?) (hl : ∀ k, left.ownBlock = some k → W'.heap[k]? = W.heap[k]?) : RSt w W' b8 b13 S G out left xs rs := by
  obtain ⟨n, p, l, c, e8⟩ := h.s8
  obtain ⟨n', p', l', c', e13⟩ := h.s13
  obtain ⟨bs, el⟩ := h.hleft
  exact ⟨hbel, ⟨n, p, l, c, e8.moved h8 hk⟩, ⟨n', p', l', c', e13.moved h13 hk⟩, h.hout.moved ho, ⟨bs, el.moved hk hl⟩, h.n8, h.n13, h.ne, h.lo13⟩
theorem RSt.kept {w W W' : World} {b8 b13 : Nat} {S G : Int} {out left : Value} {xs rs : List Int} (h : RSt w W b8 b13 S G out left xs rs) (hb : Below W.heap.size W W') : RSt w W' b8 b13 S G out left xs rs := by
  obtain ⟨n, p, l, c, e8⟩ := h.s8
  obtain ⟨n', p', l', c', e13⟩ := h.s13
  obtain ⟨bs, el⟩ := h.hleft
  exact h.moved (h.bel.trans (hb.mono h.bel.size)) (Keep3.below hb) (hb.block _ e8.lt) (hb.block _ e13.lt) (fun k hk => hb.block k (World.ownsRow.lt h.hout k hk).2) (fun k hk => hb.block k (World.ownsRow.lt el.2.1 k hk).2)
/-- one share more -/
theorem RSt.more {w W : World} {b8 b13 : Nat} {S G : Int} {out left : Value} {xs rs : List Int} (h : RSt w W b8 b13 S G out left xs rs) (hn : xs.length ≤ 1000000) (d : Int) :
    ∃ g c w', (Builtin.append_ #[50, 50] 50 #[out, .slice (some ⟨W.heap.size, 0, none⟩) 1 1]).run Tryz.prog (W.alloc (.cells #[.int .i64 d] 2)) = .ok (.slice (some ⟨g, 0, none⟩) (xs.length + 1) c) w' ∧
      RSt w w' b8 b13 S G (.slice (some ⟨g, 0, none⟩) (xs.length + 1) c) left (xs ++ [d]) rs ∧ (∀ (b : Nat) (cur : Array Value) (fr : Nat × Nat), W.heap[b]? = some (Obj.cells cur 79 fr) → w'.heap[b]? = W.heap[b]?) ∧ Keep3 W w' := by
  obtain ⟨g, c, w', hrun, hgr, hgw, hlie⟩ := h.hout.more h.bel.size hn d
  have hal : Below W.heap.size W (W.alloc (.cells #[.int .i64 d] 2)) := (Below.refl _ _).alloc (Nat.le_refl _) _
  have hblk : ∀ (b : Nat) (cur : Array Value) (t : TypeId) (fr : Nat × Nat), t ≠ 2 → W.heap[b]? = some (Obj.cells cur t fr) → w'.heap[b]? = W.heap[b]? := fun b cur t fr ht e => by
    have hlt := (Array.getElem?_eq_some_iff.1 e).1
    refine (hgw.block b (by simp; omega) fun hr => ?_).trans (hal.block b hlt)
    obtain ⟨cur', e'⟩ := h.hout.is2 b hr.symm
    exact ne_block e e' ht rfl
  have hk : Keep3 W w' := fun b cur fr e => (hblk b cur 3 fr (by decide) e).trans e
  obtain ⟨n, p, l, c8, e8⟩ := h.s8
  obtain ⟨n', p', l', c', e13⟩ := h.s13
  obtain ⟨bs, el⟩ := h.hleft
  refine ⟨g, c, w', hrun, ⟨h.bel.trans (h.hout.bel _ hgw h.bel.size), ⟨n, p, l, c8, e8.moved (hblk _ _ 79 _ (by decide) e8.1) hk⟩, ⟨n', p', l', c', e13.moved (hblk _ _ 79 _ (by decide) e13.1) hk⟩, hgr, ⟨bs, el.moved hk fun k hkk => ?_⟩, h.n8, h.n13, h.ne, h.lo13⟩, fun b cur fr e => hblk b cur 79 fr (by decide) e, hk⟩
  obtain ⟨cur', e'⟩ := el.not3 k hkk
  exact hblk _ _ 79 _ (by decide) e'
/-- one rest more -/
theorem RSt.moreLeft {w W : World} {b8 b13 : Nat} {S G : Int} {out left : Value} {xs rs : List Int} (h : RSt w W b8 b13 S G out left xs rs) (hn : rs.length ≤ 1000000) (n : Bool) (p : Option Addr) (l c : Nat) (r : Int)
    (hv : IsB W (.agg #[.bool n, .slice p l c]) 20 r) :
    ∃ g cc w', (Builtin.append_ #[154, 154] 154 #[left, .slice (some ⟨W.heap.size, 0, none⟩) 1 1]).run Tryz.prog (W.alloc (.cells #[.bool n, .slice p l c] 79)) = .ok (.slice (some ⟨g, 0, none⟩) (rs.length + 1) cc) w' ∧
      RSt w w' b8 b13 S G out (.slice (some ⟨g, 0, none⟩) (rs.length + 1) cc) xs (rs ++ [r]) ∧ (∀ b, left.ownBlock ≠ some b → b < W.heap.size → w'.heap[b]? = W.heap[b]?) ∧ Keep3 W w' := by
  obtain ⟨bs, el⟩ := h.hleft
  obtain ⟨g, cc, w', hrun, hl, hgw, hlie, hk, hb⟩ := el.more h.bel.size hn n p l c r hv
  have hal : Below W.heap.size W (W.alloc (.cells #[.bool n, .slice p l c] 79)) := (Below.refl _ _).alloc (Nat.le_refl _) _
  have hblk : ∀ b, left.ownBlock ≠ some b → b < W.heap.size → w'.heap[b]? = W.heap[b]? := fun b hne hlt => (hgw.block b (by simp; omega) fun hr => hne hr.symm).trans (hal.block b hlt)
  obtain ⟨n8, p8, l8, c8, e8⟩ := h.s8
  obtain ⟨n', p', l', c', e13⟩ := h.s13
  have l8 := e8.lt
  have l13 := e13.lt
  have hne : ∀ b, left.ownBlock ≠ some b → b < W.heap.size → (Value.slice (some ⟨g, 0, none⟩) (rs.length + 1) cc).ownBlock ≠ some b := fun b h1 h2 h3 => by
    simp [Value.ownBlock] at h3
    subst h3
    rcases hlie with h | h
    · exact h1 h
    · omega
  refine ⟨g, cc, w', hrun, ⟨h.bel.trans hb, ⟨n8, p8, _, c8, e8.moved (hblk _ h.n8 l8) hk⟩, ⟨n', p', l', c', e13.moved (hblk _ h.n13 l13) hk⟩, h.hout.moved fun k hkk => ?_, ⟨_, hl⟩, hne _ h.n8 l8, hne _ h.n13 l13, h.ne, h.lo13⟩, hblk, hk⟩
  obtain ⟨cur, e2⟩ := h.hout.is2 k hkk
  refine hblk k (fun hc => ?_) (World.ownsRow.lt h.hout k hkk).2
  obtain ⟨cur', e'⟩ := el.not3 k hc
  exact ne_block e2 e' (by decide) rfl
/-- what is given is laid anew -/
theorem RSt.put {w W : World} {b8 b13 : Nat} {S G G' : Int} {out left : Value} {xs rs : List Int} (h : RSt w W b8 b13 S G out left xs rs) {n : Bool} {p : Option Addr} {l c : Nat} (hv : IsB W (.agg #[.bool n, .slice p l c]) 6 G') :
    RSt w ((W.setCell ⟨b13, 0, none⟩ (.bool n)).setCell ⟨b13, 1, none⟩ (.slice p l c)) b8 b13 S G' out left xs rs ∧ ∀ k, k ≠ b13 → ((W.setCell ⟨b13, 0, none⟩ (.bool n)).setCell ⟨b13, 1, none⟩ (.slice p l c)).heap[k]? = W.heap[k]? := by
  obtain ⟨n8, p8, l8, c8, e8⟩ := h.s8
  obtain ⟨n', p', l', c', e13⟩ := h.s13
  obtain ⟨bs, el⟩ := h.hleft
  obtain ⟨hB, hk, ho⟩ := BigAt.put (L := 6) (N := G) e13.1 hv
  refine ⟨⟨(h.bel.setCell h.lo13 _).setCell h.lo13 _, ⟨n8, p8, l8, c8, e8.moved (ho _ h.ne) hk⟩, ⟨n, p, l, c, hB⟩, h.hout.moved fun k hkk => ?_, ⟨bs, el.moved hk fun k hkk => ho k fun e => h.n13 (by rw [← e]; exact hkk)⟩, h.n8, h.n13, h.ne, h.lo13⟩, ho⟩
  obtain ⟨cur, e2⟩ := h.hout.is2 k hkk
  exact ho k (ne_block e2 e13.1 (by decide))
/-- a share is laid anew -/
theorem RSt.bump {w W : World} {b8 b13 g len cap i : Nat} {S G : Int} {left : Value} {xs rs : List Int} (h : RSt w W b8 b13 S G (.slice (some ⟨g, 0, none⟩) xs.length cap) left xs rs) (d : Int) :
    RSt w (W.setCell ⟨g, i, none⟩ (.int .i64 d)) b8 b13 S G (.slice (some ⟨g, 0, none⟩) xs.length cap) left (xs.set i d) rs ∧ ∀ k, k ≠ g → (W.setCell ⟨g, i, none⟩ (.int .i64 d)).heap[k]? = W.heap[k]? := by
  obtain ⟨n8, p8, l8, c8, e8⟩ := h.s8
  obtain ⟨n', p', l', c', e13⟩ := h.s13
  obtain ⟨bs, el⟩ := h.hleft
  have hst := (World.ownsRow.stored h.hout i (.int .i64 d)).1
  obtain ⟨cur, e2⟩ := h.hout.is2 g rfl
  have ho : ∀ k, k ≠ g → (W.setCell ⟨g, i, none⟩ (.int .i64 d)).heap[k]? = W.heap[k]? := fun k hk => Below.heap_setCell _ _ _ k hk
  have hk : Keep3 W (W.setCell ⟨g, i, none⟩ (.int .i64 d)) := Keep3.set _ fun cur' fr e => by rw [e2] at e; cases e
  refine ⟨⟨h.bel.setCell (World.ownsRow.lt h.hout g rfl).1 _, ⟨n8, p8, l8, c8, e8.moved (ho _ (ne_block e8.1 e2 (by decide))) hk⟩, ⟨n', p', l', c', e13.moved (ho _ (ne_block e13.1 e2 (by decide))) hk⟩, ?_, ⟨bs, el.moved hk fun k hkk => ?_⟩, h.n8, h.n13, h.ne, h.lo13⟩, ho⟩
  · unfold Grows
    rw [List.length_set, List.map_set]
    exact hst
  · obtain ⟨cur', e'⟩ := el.not3 k hkk
    exact ho k (ne_block e' e2 (by decide))

/-- a row of flags -/
def Flags (W : World) (B g n : Nat) (fl : List Bool) : Prop := W.ownsRow B 4 1 (.slice (some ⟨g, 0, none⟩) n n) n (fl.map Value.bool)
theorem Flags.is4 {W : World} {B g n : Nat} {fl : List Bool} (h : Flags W B g n fl) : ∃ cur, W.heap[g]? = some (.cells cur 4 (0, 0)) := by
  rcases h.2 with ⟨e, _⟩ | ⟨g', cap, cur, e, h1, h2, h3⟩
  · cases e
  · simp at e; obtain ⟨rfl, _⟩ := e; exact ⟨cur, h2⟩
theorem Flags.moved {W W' : World} {B g n : Nat} {fl : List Bool} (h : Flags W B g n fl) (hb : W'.heap[g]? = W.heap[g]?) : Flags W' B g n fl := by
  refine ⟨h.1, ?_⟩
  rcases h.2 with h0 | ⟨g', cap, cur, e, h1, h2, h3⟩
  · exact Or.inl h0
  · simp at e; obtain ⟨rfl, rfl⟩ := e
    exact Or.inr ⟨g, n, cur, rfl, h1, hb.trans h2, h3⟩
theorem Flags.lt {W : World} {B g n : Nat} {fl : List Bool} (h : Flags W B g n fl) : B ≤ g ∧ g < W.heap.size := World.ownsRow.lt h g rfl
theorem Flags.cell {W : World} {B g n i : Nat} {fl : List Bool} (h : Flags W B g n fl) (hi : i < n) : W.cell? ⟨g, i, none⟩ = some (.bool (fl.getD i false)) := by
  have hl : fl.length = n := by have := h.1; simpa using this
  rw [World.ownsRow.cellAt h i (by omega), List.getElem?_map, List.getElem?_eq_getElem (by omega), List.getD_eq_getElem?_getD, List.getElem?_eq_getElem (by omega)]
  rfl
theorem Flags.set {W : World} {B g n i : Nat} {fl : List Bool} (h : Flags W B g n fl) (b : Bool) : Flags (W.setCell ⟨g, i, none⟩ (.bool b)) B g n (fl.set i b) := by
  unfold Flags
  rw [List.map_set]
  exact (World.ownsRow.stored h i (.bool b)).1
/-- a flag is laid: all else stays -/
theorem RSt.flag {w W : World} {b8 b13 g n i : Nat} {S G : Int} {out left : Value} {xs rs : List Int} {fl : List Bool} (h : RSt w W b8 b13 S G out left xs rs) (hf : Flags W w.heap.size g n fl) (b : Bool) :
    RSt w (W.setCell ⟨g, i, none⟩ (.bool b)) b8 b13 S G out left xs rs := by
  obtain ⟨n8, p8, l8, c8, e8⟩ := h.s8
  obtain ⟨n', p', l', c', e13⟩ := h.s13
  obtain ⟨bs, el⟩ := h.hleft
  obtain ⟨cur, e4⟩ := hf.is4
  have ho : ∀ k, k ≠ g → (W.setCell ⟨g, i, none⟩ (.bool b)).heap[k]? = W.heap[k]? := fun k hk => Below.heap_setCell _ _ _ k hk
  have hk : Keep3 W (W.setCell ⟨g, i, none⟩ (.bool b)) := Keep3.set _ fun cur' fr e => by rw [e4] at e; cases e
  refine h.moved (h.bel.setCell hf.lt.1 _) hk (ho _ (ne_block e8.1 e4 (by decide))) (ho _ (ne_block e13.1 e4 (by decide))) (fun k hkk => ?_) (fun k hkk => ?_)
  · obtain ⟨cur', e'⟩ := h.hout.is2 k hkk
    exact ho k (ne_block e' e4 (by decide))
  · obtain ⟨cur', e'⟩ := el.not3 k hkk
    exact ho k (ne_block e' e4 (by decide))

/-- who has got one more, after k rounds -/
def flagsOf (L : List Nat) (n k : Nat) : List Bool := (List.range n).map fun i => decide (i ∈ L.take k)
theorem flagsOf_at (L : List Nat) (n k i : Nat) (h : i < n) : (flagsOf L n k).getD i false = decide (i ∈ L.take k) := by
  rw [List.getD_eq_getElem?_getD, List.getElem?_eq_getElem (by simp [flagsOf]; exact h)]
  simp [flagsOf]
theorem flagsOf_zero (L : List Nat) (n : Nat) : flagsOf L n 0 = List.replicate n false := by
  apply List.ext_getElem
  · simp [flagsOf]
  · intro i h1 h2; simp [flagsOf]
theorem flagsOf_step (L : List Nat) (n k a : Nat) (h : L[k]? = some a) : (flagsOf L n k).set a true = flagsOf L n (k + 1) := by
  obtain ⟨hkl, hka⟩ := List.getElem?_eq_some_iff.1 h
  have htk : L.take (k + 1) = L.take k ++ [a] := by rw [List.take_succ_eq_append_getElem hkl, hka]
  apply List.ext_getElem
  · simp [flagsOf]
  · intro i h1 h2
    rw [List.getElem_set]
    simp only [flagsOf, List.getElem_map, List.getElem_range, htk, List.mem_append, List.mem_singleton]
    by_cases hia : a = i
    · subst hia; simp
    · have : i ≠ a := fun e => hia e.symm
      rw [if_neg hia]; simp [this]
/-- the best place so far: none, or a -/
def Best (ls : Nat → Int) (M : List Nat) (i : Nat) (v : Int) : Prop :=
  (v = -1 ∧ ∀ j, j < i → j ∈ M) ∨ ∃ a : Nat, v = (a : Int) ∧ a < i ∧ a ∉ M ∧ ∀ j, j < i → j ∉ M → j = a ∨ Ahead ls a j
theorem Best.zero (ls : Nat → Int) (M : List Nat) : Best ls M 0 (-1) := Or.inl ⟨rfl, fun j h => by omega⟩
theorem Best.skip {ls : Nat → Int} {M : List Nat} {i : Nat} {v : Int} (h : Best ls M i v) (hi : i ∈ M) : Best ls M (i + 1) v := by
  rcases h with ⟨rfl, h⟩ | ⟨a, rfl, h1, h2, h3⟩
  · exact Or.inl ⟨rfl, fun j hj => by
      by_cases e : j = i
      · rw [e]; exact hi
      · exact h j (by omega)⟩
  · refine Or.inr ⟨a, rfl, by omega, h2, fun j hj hm => ?_⟩
    by_cases e : j = i
    · exact absurd (e ▸ hi) hm
    · exact h3 j (by omega) hm
theorem Best.first {ls : Nat → Int} {M : List Nat} {i : Nat} (h : Best ls M i (-1)) (hi : i ∉ M) : Best ls M (i + 1) i := by
  rcases h with ⟨_, h⟩ | ⟨a, e, _⟩
  · refine Or.inr ⟨i, rfl, by omega, hi, fun j hj hm => ?_⟩
    by_cases e : j = i
    · exact Or.inl e
    · exact absurd (h j (by omega)) hm
  · omega
theorem Best.better {ls : Nat → Int} {M : List Nat} {i a : Nat} (h : Best ls M i a) (hi : i ∉ M) (hb : ls a < ls i) : Best ls M (i + 1) i := by
  rcases h with ⟨e, h⟩ | ⟨a', e, h1, h2, h3⟩
  · omega
  · have : a' = a := by omega
    subst this
    refine Or.inr ⟨i, rfl, by omega, hi, fun j hj hm => ?_⟩
    by_cases e : j = i
    · exact Or.inl e
    · right
      rcases h3 j (by omega) hm with rfl | h
      · exact Or.inl hb
      · unfold Ahead at *; omega
theorem Best.worse {ls : Nat → Int} {M : List Nat} {i a : Nat} (h : Best ls M i a) (hb : ¬ ls a < ls i) : Best ls M (i + 1) a := by
  rcases h with ⟨e, h⟩ | ⟨a', e, h1, h2, h3⟩
  · omega
  · have : a' = a := by omega
    subst this
    refine Or.inr ⟨a', rfl, by omega, h2, fun j hj hm => ?_⟩
    by_cases e : j = i
    · subst e; right; unfold Ahead; omega
    · exact h3 j (by omega) hm
theorem Best.done {ls : Nat → Int} {L : List Nat} {n k : Nat} {v : Int} (hp : L.Perm (List.range n)) (hs : L.Pairwise (Ahead ls)) (hk : k < n) (h : Best ls (L.take k) n v) : ∃ a : Nat, v = (a : Int) ∧ L[k]? = some a := by
  have hlen : L.length = n := by have := hp.length_eq; simpa using this
  have hnd : L.Nodup := hp.nodup_iff.2 List.nodup_range
  obtain ⟨x, hx⟩ : ∃ x, L[k]? = some x := ⟨_, List.getElem?_eq_getElem (by omega)⟩
  have hxn : x < n := List.mem_range.1 (hp.mem_iff.1 (List.mem_of_getElem? hx))
  have hrx := rank_at hp hs k x hx
  have hxm : x ∉ L.take k := fun hm => by have := (mem_take_iff hp hs k x hxn).1 hm; omega
  rcases h with ⟨_, h⟩ | ⟨a, rfl, h1, h2, h3⟩
  · exact absurd (h x hxn) hxm
  · refine ⟨a, rfl, ?_⟩
    rcases h3 x hxn hxm with rfl | hax
    · exact hx
    · exfalso
      have ham : a ∈ L := hp.mem_iff.2 (List.mem_range.2 h1)
      obtain ⟨q, hq, hqa⟩ := List.getElem_of_mem ham
      have hra := rank_at hp hs q a (by rw [List.getElem?_eq_getElem hq, hqa])
      have hqk : ¬ q < k := fun hc => h2 ((mem_take_iff hp hs k a h1).2 (by omega))
      obtain ⟨hkl, hkx⟩ := List.getElem?_eq_some_iff.1 hx
      by_cases hqe : q = k
      · subst hqe
        have : a = x := by rw [← hqa, ← hkx]
        subst this
        exact Ahead.irrefl _ _ hax
      · have := List.pairwise_iff_getElem.1 hs k q hkl hq (by omega)
        rw [hqa, hkx] at this
        exact hax.asymm this

/-- n flags, none up -/
def nos (n : Nat) : Array Value := ((List.replicate n false).map Value.bool).toArray
theorem made_flags (n : Nat) : madeCells #[Value.bool false] n = nos n := by
  unfold nos
  apply Array.ext
  · simp [size_madeCells]
  · intro i h1 h2
    simp [madeCells, Nat.mod_one]
theorem info_4 : (Tryz.prog.info? 4).map (fun i => (i.zero, i.size, i.bytes)) = some (some (.bool false), 1, 1) := by kernel_rfl
theorem make52 (n : Nat) (hn : n ≤ 1000000) (w : World) : (Instr.makeSlice 156 (.int .i64 (n : Int)) (.int .i64 (n : Int))).run Tryz.prog w = .ok (.slice (some ⟨w.heap.size, 0, none⟩) n n) (w.alloc (.cells (nos n) 4)) := by
  obtain ⟨i0, hi, hz0, hz1, hz2⟩ := info_parts info_4
  have hb : (i0.bytes : Int) * (n : Int) ≤ 281474976710656 := by rw [hz2]; omega
  have hr := run_make (P := Tryz.prog) w 156 4 i0 (.bool false) Tryz.underlying156 hi hz0 .i64 .i64 n n (by omega) (by omega) hb (by omega)
  simp only [Int.toNat_natCast, hz1, Nat.mul_one] at hr
  rw [hr, ← made_flags]
  rfl
theorem Flags.made (w : World) (B n : Nat) (hB : B ≤ w.heap.size) (hn : n ≤ 1000000) (L : List Nat) : Flags (w.alloc (.cells (nos n) 4)) B w.heap.size n (flagsOf L n 0) := by
  rw [flagsOf_zero]
  have := World.ownsRow_lit (e := 4) (size := 1) w (nos n) n hB (by unfold maxLen; omega) (by simp [nos])
  exact this

theorem rem_eq (T z S : Int) : T * z + -(T * z / S * S) = T * z % S := by
  have := Int.mul_ediv_add_emod (T * z) S
  rw [Int.mul_comm] at this
  omega
theorem take_snoc (l : List Int) (k : Nat) (h : k < l.length) : l.take k ++ [l.getD k 0] = l.take (k + 1) := by
  rw [List.take_succ_eq_append_getElem h, List.getD_eq_getElem?_getD, List.getElem?_eq_getElem h]; rfl
theorem cmp3_neg (a b : Int) : (cmp3 a b < 0) ↔ a < b := by unfold cmp3; split <;> (try split) <;> omega
theorem cmp3_pos (a b : Int) : (0 < cmp3 a b) ↔ b < a := by unfold cmp3; split <;> (try split) <;> omega

end Go.Proofs.YthocnlalahknjaaGreat
