/- A book's Text is read as that book. -/
import Derived.Test.YtflbggehgjllcaaDoorDU
import Derived.Test.YtflbggehgjllcaaDoorDQ
import Derived.Test.YtflbggehgjllcaaDoorDV
namespace Go.Proofs.YtflbggehgjllcaaDoor
set_option linter.unusedVariables false

theorem entK_split (x : En) (k : Nat) : ∀ n, ∃ r, entK x (k + 1 + n) = entK x k ++ (bes (sz k) (toU (x.num k)) ++ r)
  | 0 => ⟨[], by rw [List.append_nil]; rfl⟩
  | n + 1 => by
    obtain ⟨r, hr⟩ := entK_split x k n
    refine ⟨r ++ bes (sz (k + 1 + n)) (toU (x.num (k + 1 + n))), ?_⟩
    show entK x (k + 1 + n) ++ _ = _
    rw [hr]; simp
theorem ent_part (x : En) (t : List UInt8) (k : Nat) (hk : k < 10) : (((entB x ++ t).drop (off k)).take (sz k)) = bes (sz k) (toU (x.num k)) := by
  obtain ⟨r, hr⟩ := entK_split x k (9 - k)
  have e : k + 1 + (9 - k) = 10 := by omega
  rw [e] at hr
  unfold entB
  rw [hr, List.append_assoc, List.append_assoc, List.drop_append_of_le_length (by rw [entK_length x k (by omega)]; exact Nat.le_refl _)]
  have : (entK x k).drop (off k) = [] := by rw [List.drop_eq_nil_iff, entK_length x k (by omega)]; exact Nat.le_refl _
  rw [this, List.nil_append, List.take_append_of_le_length (by rw [bes_length]; exact Nat.le_refl _), List.take_of_length_le (by rw [bes_length]; exact Nat.le_refl _)]
theorem num_8 {v : Int} (h : In64 v) : toI (vls (bes 8 (toU v))) = v := by
  have e : (256 : Nat) ^ 8 = 18446744073709551616 := by decide
  have hl := toU_lt v
  rw [vls_bes, Nat.mod_eq_of_lt (by omega)]
  exact toI_toU v h
theorem num_lt {v : Int} {k : Nat} (hk : k ≤ 4) (h0 : 0 ≤ v) (h : v < ((256 ^ k : Nat) : Int)) : toI (vls (bes k (toU v))) = v := by
  have h4 : (256 : Nat) ^ k ≤ 256 ^ 4 := Nat.pow_le_pow_right (by omega) hk
  have e4 : (256 : Nat) ^ 4 = 4294967296 := by decide
  obtain ⟨n, rfl⟩ := Int.eq_ofNat_of_zero_le h0
  have hn : n < 256 ^ k := by exact_mod_cast h
  rw [toU_nat n (by omega), vls_bes, Nat.mod_eq_of_lt hn]
  unfold toI
  rw [if_pos (by omega)]
theorem eOf_ent {x : En} {mem cur : Int} {many : Nat} (hg : x.Good mem cur many) (hm : mem ≤ 16) (hc : cur ≤ 8) (hn : many ≤ 200) (t : List UInt8) : eOf (entB x ++ t) = x := by
  obtain ⟨h1, h2, h3, h4, h5, h6⟩ := hg
  obtain ⟨a1, a2, ⟨b1, b2, b3, b4, _⟩, ⟨c1, c2, c3, c4, _⟩, d1, d2⟩ := mayB_iff.1 h1
  obtain ⟨s1, s2⟩ := En.may_st h3
  have k1 := En.may_ask h3
  have p1 : ((256 ^ 1 : Nat) : Int) = 256 := by decide
  have p2 : ((256 ^ 2 : Nat) : Int) = 65536 := by decide
  have p4 : ((256 ^ 4 : Nat) : Int) = 4294967296 := by decide
  have f : ∀ k, k < 10 → fld (entB x ++ t) k = toI (vls (bes (sz k) (toU (x.num k)))) := fun k hk => by unfold fld; rw [ent_part x t k hk]
  have g0 : fld (entB x ++ t) 0 = x.d.id := (f 0 (by omega)).trans (num_lt (k := 4) (by omega) (by show 0 ≤ x.d.id; omega) (by show x.d.id < _; omega))
  have g1 : fld (entB x ++ t) 1 = x.d.a := (f 1 (by omega)).trans (num_lt (k := 1) (by omega) (by show 0 ≤ x.d.a; omega) (by show x.d.a < _; omega))
  have g2 : fld (entB x ++ t) 2 = x.d.b := (f 2 (by omega)).trans (num_lt (k := 1) (by omega) (by show 0 ≤ x.d.b; omega) (by show x.d.b < _; omega))
  have g3 : fld (entB x ++ t) 3 = x.d.sc := (f 3 (by omega)).trans (num_lt (k := 1) (by omega) (by show 0 ≤ x.d.sc; omega) (by show x.d.sc < _; omega))
  have g4 : fld (entB x ++ t) 4 = x.d.bc := (f 4 (by omega)).trans (num_lt (k := 1) (by omega) (by show 0 ≤ x.d.bc; omega) (by show x.d.bc < _; omega))
  have g5 : fld (entB x ++ t) 5 = x.d.s := (f 5 (by omega)).trans (num_8 h2.s)
  have g6 : fld (entB x ++ t) 6 = x.d.t := (f 6 (by omega)).trans (num_8 h2.t)
  have g7 : fld (entB x ++ t) 7 = x.st := (f 7 (by omega)).trans (num_lt (k := 1) (by omega) (by show 0 ≤ x.st; omega) (by show x.st < _; omega))
  have g8 : fld (entB x ++ t) 8 = x.ask := (f 8 (by omega)).trans (num_lt (k := 1) (by omega) (by show 0 ≤ x.ask; omega) (by show x.ask < _; omega))
  have g9 : fld (entB x ++ t) 9 = x.nth := (f 9 (by omega)).trans (num_lt (k := 2) (by omega) (by show 0 ≤ x.nth; omega) (by show x.nth < _; omega))
  unfold eOf
  rw [g0, g1, g2, g3, g4, g5, g6, g7, g8, g9]
theorem goR_ents {mem cur : Int} {many : Nat} (hm : mem ≤ 16) (hc : cur ≤ 8) (hn : many ≤ 200) : ∀ (r l1 : List En), (∀ e ∈ r, e.Good mem cur many) → ((l1 ++ r).map (·.d.id)).Nodup → goR r.length (ents r) ⟨mem, cur, l1, 0⟩ = some ⟨mem, cur, l1 ++ r, 0⟩
  | [], l1, _, _ => by rw [List.append_nil]; rfl
  | x :: r, l1, hg, hd => by
    have hx := hg x (by simp)
    have e1 : ents (x :: r) = entB x ++ ents r := by unfold ents; rw [List.flatMap_cons]
    have e2 := eOf_ent hx hm hc hn (ents r)
    have e3 : (entB x ++ ents r).drop 28 = ents r := by
      have e0 : (entB x).drop 28 = [] := by rw [List.drop_eq_nil_iff, entB_length]; exact Nat.le_refl _
      rw [List.drop_append_of_le_length (by rw [entB_length]; exact Nat.le_refl _), e0, List.nil_append]
    have hnone : atL l1 x.d.id = none := atL_of_none fun e he h => by
      rw [List.map_append, List.nodup_append] at hd
      exact hd.2.2 e.d.id (List.mem_map.2 ⟨e, he, rfl⟩) x.d.id (by simp) h
    have hf : Bk.fits ⟨mem, cur, l1, 0⟩ x = true := by unfold Bk.fits; dsimp only; rw [hx.1, hnone, hx.2.2.1]; rfl
    rw [e1, List.length_cons, goR, e2, if_pos hf, e3]
    have := goR_ents hm hc hn r (l1 ++ [x]) (fun e he => hg e (by simp [he])) (by simpa using hd)
    simpa using this
theorem srt_up {l : List Int} {n : Nat} (h : l.Perm ((List.range n).map fun (k : Nat) => (k : Int) + 1)) : srt l = (List.range n).map fun (k : Nat) => (k : Int) + 1 := by
  unfold srt
  refine List.Perm.eq_of_pairwise (le := fun a b : Int => a ≤ b) (fun a b _ _ h1 h2 => by omega) ?_ ?_ ((List.mergeSort_perm l _).trans h)
  · have := List.pairwise_mergeSort (le := fun x y : Int => decide (x ≤ y)) (fun a b c h1 h2 => by simp at *; omega) (fun a b => by simp; omega) l
    exact this.imp fun h => by simpa using h
  · rw [List.pairwise_map]
    have : List.Pairwise (fun a b : Nat => a < b) (List.range n) := List.pairwise_lt_range
    exact this.imp fun h => by omega
theorem isUp_up (n : Nat) : isUp ((List.range n).map fun (k : Nat) => (k : Int) + 1) = true := by
  unfold isUp; simp
theorem text_length (b : Bk) : b.text.length = 2 + b.l.length * 28 := by unfold Bk.text; rw [List.length_append, bes_length, ents_length]
theorem readB_text {b : Bk} (h : b.Ok) : readB b.text b.mem b.cur = some b := by
  have hl := h.len
  have hn : newR b.mem b.cur = true := by unfold newR; have h1 := h.mem; have h2 := h.cur; simp; omega
  have ht : b.text.take 2 = bes 2 (toU (b.l.length : Nat)) := by unfold Bk.text; rw [List.take_append_of_le_length (by rw [bes_length]; exact Nat.le_refl _), List.take_of_length_le (by rw [bes_length]; exact Nat.le_refl _)]
  have hd : b.text.drop 2 = ents b.l := by
    unfold Bk.text
    rw [List.drop_append_of_le_length (by rw [bes_length]; exact Nat.le_refl _)]
    have : (bes 2 (toU (b.l.length : Nat))).drop 2 = [] := by rw [List.drop_eq_nil_iff, bes_length]; exact Nat.le_refl _
    rw [this, List.nil_append]
  have hv : vls (b.text.take 2) = b.l.length := by
    have e : (256 : Nat) ^ 2 = 65536 := by decide
    rw [ht, toU_nat _ (by omega), vls_bes, Nat.mod_eq_of_lt (by omega)]
  have hlen := text_length b
  unfold readB
  rw [if_neg (by rw [hn, hlen]; simp), hv, if_neg (by rw [hlen]; omega), hd, goR_ents h.mem.2 h.cur.2 h.many.2 b.l [] h.may (by simpa using h.ids)]
  show endR _ = _
  unfold endR
  dsimp only
  have hs : srt (nths b.l) = (List.range b.many).map fun (k : Nat) => (k : Int) + 1 := srt_up h.nth
  have hmn : (nths b.l).length = b.many := h.many.1.symm
  rw [List.nil_append, hs, if_pos (isUp_up _), hmn]
end Go.Proofs.YtflbggehgjllcaaDoor
