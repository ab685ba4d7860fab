/- What is read of a text is that text again. No Go text. -/
import Derived.Test.YtflbggehgjllcaaDoorDX
namespace Go.Proofs.YtflbggehgjllcaaDoor
set_option linter.unusedVariables false

theorem may_big {x : En} (h : 3 < x.ask) : x.may = false := by
  rcases hm : x.may with _ | _
  · rfl
  · have := En.may_ask hm; omega
theorem perm_of_sub : ∀ {a b : List Int}, a.Nodup → (∀ x ∈ a, x ∈ b) → b.length = a.length → b.Perm a
  | [], b, _, _, hl => by rw [List.eq_nil_of_length_eq_zero hl]
  | x :: a, b, hn, hs, hl => by
    rw [List.nodup_cons] at hn
    have hx := hs x (by simp)
    have h1 := List.perm_cons_erase hx
    have h2 := h1.length_eq
    simp at h2 hl
    refine h1.trans ((perm_of_sub hn.2 (fun y hy => ?_) (by omega)).cons x)
    exact (List.mem_erase_of_ne (show y ≠ x from fun e => hn.1 (by rw [← e]; exact hy))).2 (hs y (by simp [hy]))
theorem mem_nths {l : List En} {n : Int} : n ∈ nths l ↔ 0 < n ∧ ∃ e ∈ l, e.nth = n := by
  unfold nths
  rw [List.mem_map]
  constructor
  · rintro ⟨e, he, rfl⟩
    rw [List.mem_filter] at he
    exact ⟨by simpa using he.2, e, he.1, rfl⟩
  · rintro ⟨h, e, he, rfl⟩
    exact ⟨e, List.mem_filter.2 ⟨he, by simpa using h⟩, rfl⟩
theorem ups_nodup (m : Nat) : ((List.range m).map fun (k : Nat) => (k : Int) + 1).Nodup := by
  unfold List.Nodup
  rw [List.pairwise_map]
  have : List.Pairwise (fun a b : Nat => a < b) (List.range m) := List.pairwise_lt_range
  exact this.imp fun h => by omega
theorem isUp_iff {l : List En} : isUp (srt (nths l)) = true ↔ ∀ n : Nat, 1 ≤ n → n ≤ (nths l).length → ∃ e ∈ l, e.nth = (n : Int) := by
  constructor
  · intro h n h1 h2
    unfold isUp at h
    rw [beq_iff_eq, srt_len] at h
    have hm : (n : Int) ∈ srt (nths l) := by
      rw [h, List.mem_map]
      exact ⟨n - 1, List.mem_range.2 (by omega), by omega⟩
    have : (n : Int) ∈ nths l := (List.mergeSort_perm _ _).mem_iff.1 hm
    exact (mem_nths.1 this).2
  · intro h
    have hp : (nths l).Perm ((List.range (nths l).length).map fun (k : Nat) => (k : Int) + 1) := perm_of_sub (ups_nodup _) (fun x hx => by
      obtain ⟨k, hk, rfl⟩ := List.mem_map.1 hx
      have hk := List.mem_range.1 hk
      obtain ⟨e, he, hn⟩ := h (k + 1) (by omega) (by omega)
      exact mem_nths.2 ⟨by omega, e, he, by rw [hn]; omega⟩) (by simp)
    rw [srt_up hp]
    exact isUp_up _
theorem isUp_perm {l : List En} (h : isUp (srt (nths l)) = true) : (nths l).Perm ((List.range (nths l).length).map fun (k : Nat) => (k : Int) + 1) := by
  unfold isUp at h
  rw [beq_iff_eq, srt_len] at h
  rw [← h]
  exact (List.mergeSort_perm _ _).symm
theorem eOf_num (s : List UInt8) : ∀ k, k < 10 → (eOf s).num k = fld s k := ten rfl rfl rfl rfl rfl rfl rfl rfl rfl rfl
theorem entK_eOf (s : List UInt8) (h : 28 ≤ s.length) : ∀ k, k ≤ 10 → entK (eOf s) k = s.take (off k)
  | 0, _ => by show [] = _; rw [show off 0 = 0 from rfl, List.take_zero]
  | k + 1, hk => by
    have hl : ((s.drop (off k)).take (sz k)).length = sz k := by rw [List.length_take, List.length_drop]; have := off_le k (by omega); omega
    have hv := vls_lt ((s.drop (off k)).take (sz k))
    have h8 : (256 : Nat) ^ ((s.drop (off k)).take (sz k)).length ≤ 256 ^ 8 := Nat.pow_le_pow_right (by omega) (by rw [hl]; exact sz_le k (by omega))
    have h88 : (256 : Nat) ^ 8 = 18446744073709551616 := by decide
    rw [entK, entK_eOf s h k (by omega), eOf_num s k (by omega)]
    unfold fld
    rw [toU_toI _ (by omega)]
    have e2 : bes (sz k) (vls ((s.drop (off k)).take (sz k))) = (s.drop (off k)).take (sz k) := by
      have := bes_vls ((s.drop (off k)).take (sz k))
      rwa [hl] at this
    rw [e2, off_succ k (by omega), List.take_add]
theorem entB_eOf (s : List UInt8) (h : 28 ≤ s.length) : entB (eOf s) = s.take 28 := entK_eOf s h 10 (by omega)
theorem eOf_in (s : List UInt8) : (eOf s).d.In := ⟨fld_in s 0 (by omega), fld_in s 1 (by omega), fld_in s 2 (by omega), fld_in s 3 (by omega), fld_in s 4 (by omega), fld_in s 5 (by omega), fld_in s 6 (by omega)⟩
theorem fld_nat (s : List UInt8) {k : Nat} (hk : k < 10) (h7 : sz k ≤ 7) : 0 ≤ fld s k := by
  unfold fld
  have hv := vls_lt ((s.drop (off k)).take (sz k))
  have h8 : (256 : Nat) ^ ((s.drop (off k)).take (sz k)).length ≤ 256 ^ 7 := Nat.pow_le_pow_right (by omega) (by rw [List.length_take]; omega)
  have h88 : (256 : Nat) ^ 7 = 72057594037927936 := by decide
  unfold toI
  rw [if_pos (by omega)]
  omega
theorem goR_some {mem cur : Int} : ∀ (k : Nat) (s : List UInt8) (l : List En) (b : Bk), goR k s ⟨mem, cur, l, 0⟩ = some b → s.length = 28 * k → (∀ e ∈ l, mayB e.d mem cur = true ∧ e.d.In ∧ e.may = true ∧ 0 ≤ e.ask ∧ 0 ≤ e.nth) → (l.map (·.d.id)).Nodup →
    ∃ r, b = ⟨mem, cur, l ++ r, 0⟩ ∧ r.length = k ∧ ents r = s ∧ (∀ e ∈ l ++ r, mayB e.d mem cur = true ∧ e.d.In ∧ e.may = true ∧ 0 ≤ e.ask ∧ 0 ≤ e.nth) ∧ ((l ++ r).map (·.d.id)).Nodup
  | 0, s, l, b, h, hs, hg, hn => by
    have : s = [] := List.eq_nil_of_length_eq_zero (by omega)
    subst this
    rw [goR] at h
    injection h with h
    exact ⟨[], by rw [List.append_nil, h], rfl, rfl, by simpa using hg, by simpa using hn⟩
  | k + 1, s, l, b, h, hs, hg, hn => by
    rw [goR] at h
    split at h
    · rename_i hf
      unfold Bk.fits at hf
      simp only [Bool.and_eq_true] at hf
      obtain ⟨⟨f1, f2⟩, f3⟩ := hf
      have hnone : atL l (eOf s).d.id = none := by simpa using f2
      obtain ⟨r, rfl, hl, he, hg2, hn2⟩ := goR_some k (s.drop 28) (l ++ [eOf s]) b h (by rw [List.length_drop]; omega) (fun e he => by
        rcases List.mem_append.1 he with he | he
        · exact hg e he
        · obtain rfl := List.mem_singleton.1 he
          exact ⟨f1, eOf_in s, f3, fld_nat s (k := 8) (by omega) (by decide), fld_nat s (k := 9) (by omega) (by decide)⟩) (by
        rw [List.map_append, List.nodup_append]
        refine ⟨hn, by simp, fun a ha b hb => ?_⟩
        simp at hb
        subst hb
        obtain ⟨e, he, rfl⟩ := List.mem_map.1 ha
        exact atL_none hnone e he)
      refine ⟨eOf s :: r, by simp, by simp [hl], ?_, by simpa using hg2, by simpa using hn2⟩
      have : ents (eOf s :: r) = entB (eOf s) ++ ents r := by unfold ents; rw [List.flatMap_cons]
      rw [this, he, entB_eOf s (by omega), List.take_append_drop]
    · cases h
/-- a text that is read: the book, and its text again -/
theorem readB_some {s : List UInt8} {mem cur : Int} {b : Bk} (h : readB s mem cur = some b) : b.Ok ∧ b.text = s ∧ b.mem = mem ∧ b.cur = cur := by
  unfold readB at h
  split at h
  · cases h
  · rename_i h1
    split at h
    · cases h
    · rename_i h2
      obtain ⟨b0, hg, he⟩ := Option.bind_eq_some_iff.1 h
      have hnew : newR mem cur = true := by
        rcases hn : newR mem cur with _ | _
        · exact absurd (.inl hn) h1
        · rfl
      have hl2 : 2 ≤ s.length := by omega
      obtain ⟨r, rfl, hlr, her, hgd, hnd⟩ := goR_some _ _ [] b0 hg (by rw [List.length_drop]; omega) (by simp) (by simp)
      rw [List.nil_append] at he hgd hnd
      unfold endR at he
      split at he
      · rename_i hu
        injection he with he
        dsimp only [List.nil_append] at he hu
        subst he
        have hp := isUp_perm hu
        unfold newR at hnew
        obtain ⟨a1, a2, a3, a4⟩ := of_decide_eq_true hnew
        refine ⟨⟨⟨a1, a2⟩, ⟨a3, a4⟩, by show r.length ≤ 200; omega, hnd, fun e hem => ?_, hp⟩, ?_, rfl, rfl⟩
        · obtain ⟨g1, g2, g3, g4, g5⟩ := hgd e hem
          refine ⟨g1, g2, g3, g4, g5, ?_⟩
          by_cases h0 : 0 < e.nth
          · have hm := hp.mem_iff.1 (mem_nths.2 ⟨h0, e, hem, rfl⟩)
            obtain ⟨k, hk, hk2⟩ := List.mem_map.1 hm
            have := List.mem_range.1 hk
            show e.nth ≤ ((nths r).length : Int)
            omega
          · show e.nth ≤ ((nths r).length : Int)
            omega
        · unfold Bk.text
          show bes 2 (toU ((r.length : Nat) : Int)) ++ ents r = s
          rw [her, hlr]
          have ht : (s.take 2).length = 2 := by rw [List.length_take]; omega
          have hv := vls_lt (s.take 2)
          rw [ht] at hv
          have e2 : bes 2 (vls (s.take 2)) = s.take 2 := by
            have := bes_vls (s.take 2)
            rwa [ht] at this
          rw [toU_nat _ (by have : (256 : Nat) ^ 2 = 65536 := by decide
                            omega), e2, List.take_append_drop]
      · cases he
end Go.Proofs.YtflbggehgjllcaaDoor
