/- Commands and replies as bytes: there and back. No Go text. -/
import Derived.Test.YtgcliallkfnhaaaW0
namespace Go.Proofs.Ytgcliallkfnhaaa
set_option linter.unusedVariables false

theorem pieces_split (c : Cmd) (i : Nat) : ∀ n, ∃ r, pieces c (i + 1 + n) = pieces c i ++ (piece c i ++ r)
  | 0 => ⟨[], by rw [List.append_nil]; rfl⟩
  | n + 1 => by
    obtain ⟨r, h⟩ := pieces_split c i n
    exact ⟨r ++ piece c (i + 1 + n), by rw [← Nat.add_assoc, pieces, h]; simp⟩
theorem put_piece (c : Cmd) (i : Nat) (hi : i < 7) (hu : hasN c.Kind i = true) : ((putC c).drop (pos c.Kind i)).take (wid i) = bes (wid i) (toU (c.num i)) := by
  obtain ⟨r, h⟩ := pieces_split c i (6 - i)
  rw [show i + 1 + (6 - i) = 7 by omega] at h
  rw [putC, h, ← pieces_length c i, List.drop_succ_cons, List.drop_left]
  unfold piece
  rw [if_pos hu]
  have := bes_length (wid i) (toU (c.num i))
  rw [List.take_append_of_le_length (by omega), List.take_of_length_le (by omega)]
theorem known_bnd {k : Int} (h : known k = true) : 1 ≤ k ∧ k ≤ 9 := by unfold known at h; simpa using h
theorem kind_byte {k : Int} (h : known k = true) : (((UInt8.ofNat (toU k % 256)).toNat : Nat) : Int) = k := by
  have := known_bnd h
  have e : toU k = k.toNat := by unfold toU; omega
  rw [UInt8.toNat_ofNat', e]
  omega
theorem told_kind (s : List UInt8) : (told s).Kind = ((s.headD 0).toNat : Int) := rfl
theorem put_kind {c : Cmd} (h : known c.Kind = true) : (told (putC c)).Kind = c.Kind := by
  rw [told_kind, putC]
  exact kind_byte h
theorem mayN_used {c : Cmd} {i : Nat} (h : mayN c i = true) : hasN c.Kind i = false → c.num i = 0 := by
  intro hu
  unfold mayN at h
  rw [hu] at h
  simp at h
  exact h.1
theorem mayN_one {c : Cmd} {i : Nat} (h : mayN c i = true) (hw : wid i = 1) : 0 ≤ c.num i ∧ c.num i ≤ 255 := by
  unfold mayN at h
  rw [if_pos hw] at h
  simp at h
  exact h.2
theorem mayN_four {c : Cmd} {i : Nat} (h : mayN c i = true) (hw : wid i = 4) : 0 ≤ c.num i ∧ c.num i ≤ 2147483647 := by
  unfold mayN at h
  rw [if_neg (by omega), if_pos hw] at h
  simp at h
  exact h.2
theorem wid_three (i : Nat) : wid i = 1 ∨ wid i = 4 ∨ wid i = 8 := by unfold wid; split <;> simp
theorem told_put {c : Cmd} (hc : c.In) (h : mayC c = true) : told (putC c) = c := by
  obtain ⟨hk, hn⟩ := (mayC_iff c).1 h
  refine Cmd.ext (put_kind hk) fun i hi => ?_
  rw [told_num _ i hi, put_kind hk]
  unfold valU
  by_cases hu : hasN c.Kind i = true
  · rw [if_pos hu, put_piece c i hi hu, vls_bes]
    have hb := hc.num i
    rcases wid_three i with w | w | w
    · have := mayN_one (hn i hi) w
      rw [w, Nat.mod_eq_of_lt (by unfold toU; omega)]
      exact toI_toU _ hb
    · have := mayN_four (hn i hi) w
      rw [w, Nat.mod_eq_of_lt (by unfold toU; omega)]
      exact toI_toU _ hb
    · rw [w, Nat.mod_eq_of_lt (by have := toU_lt (c.num i); omega)]
      exact toI_toU _ hb
  · rw [if_neg hu, mayN_used (hn i hi) (by simpa using hu)]
    rfl
/-- a command that may be is that of its bytes -/
theorem take_put {c : Cmd} (hc : c.In) (h : mayC c = true) : takeC (putC c) = some c := by
  unfold takeC
  rw [told_put hc h, if_pos ⟨by rw [putC]; simp, put_length c, h⟩]
theorem pieces_told {s : List UInt8} (h : s.length = pos (told s).Kind 7) : ∀ i, i ≤ 7 → pieces (told s) i = (s.take (pos (told s).Kind i)).drop 1
  | 0, _ => by show [] = (s.take 1).drop 1; rw [List.drop_take]; simp
  | i + 1, hi => by
    rw [pieces, pieces_told h i (by omega), pos]
    have h1 : pos (told s).Kind 0 ≤ pos (told s).Kind i := pos_le _ (by omega)
    have h0 : pos (told s).Kind 0 = 1 := rfl
    unfold piece
    by_cases hu : hasN (told s).Kind i = true
    · have hp : pos (told s).Kind (i + 1) ≤ pos (told s).Kind 7 := pos_le _ hi
      rw [pos, if_pos hu] at hp
      rw [if_pos hu, if_pos hu, told_num s i (by omega), toU_toI _ (valU_lt _ _ _)]
      unfold valU
      rw [if_pos hu]
      have hl : ((s.drop (pos (told s).Kind i)).take (wid i)).length = wid i := by rw [List.length_take, List.length_drop]; omega
      have e := bes_vls ((s.drop (pos (told s).Kind i)).take (wid i))
      rw [hl] at e
      rw [e, List.take_add, List.drop_append_of_le_length (by rw [List.length_take]; omega)]
    · rw [if_neg hu, if_neg hu, List.append_nil, Nat.add_zero]
/-- what bytes tell has these bytes -/
theorem put_take {s : List UInt8} {c : Cmd} (h : takeC s = some c) : putC c = s ∧ mayC c = true ∧ c.In := by
  unfold takeC at h
  split at h
  · rename_i hh
    obtain ⟨h1, h2, h3⟩ := hh
    injection h with h
    subst h
    refine ⟨?_, h3, told_in s⟩
    rw [putC, pieces_told h2 7 (by omega), ← h2, List.take_of_length_le (Nat.le_refl _)]
    cases s with
    | nil => exact absurd rfl h1
    | cons x t =>
      have e : toU (told (x :: t)).Kind = x.toNat := toU_nat _ (by have : ((x :: t).headD 0).toNat < 256 := ((x :: t).headD 0).toNat_lt; omega)
      rw [e, Nat.mod_eq_of_lt x.toNat_lt, UInt8.ofNat_toNat]
      rfl
  · cases h
theorem pos_two {k : Int} (h : known k = true) : 2 ≤ pos k 7 := by
  refine uses_all (P := fun k => 2 ≤ pos k 7) h ?_ ?_ ?_ ?_ ?_ ?_ ?_ ?_ ?_ <;> decide
/-- bytes with one more, or one less, are no command's -/
theorem take_more {c : Cmd} (h : mayC c = true) (x : UInt8) : takeC (putC c ++ [x]) = none := by
  obtain ⟨hk, _⟩ := (mayC_iff c).1 h
  have e : (told (putC c ++ [x])).Kind = c.Kind := by rw [told_kind, putC]; exact kind_byte hk
  unfold takeC
  rw [if_neg]
  rintro ⟨_, h2, _⟩
  rw [e, List.length_append, put_length, List.length_singleton] at h2
  omega
theorem take_less {c : Cmd} (h : mayC c = true) : takeC ((putC c).take ((putC c).length - 1)) = none := by
  obtain ⟨hk, _⟩ := (mayC_iff c).1 h
  have hl := put_length c
  have h2 := pos_two hk
  have e : (told ((putC c).take ((putC c).length - 1))).Kind = c.Kind := by
    rw [told_kind, hl, show pos c.Kind 7 - 1 = (pos c.Kind 7 - 2) + 1 by omega, putC, List.take_succ_cons]
    exact kind_byte hk
  unfold takeC
  rw [if_neg]
  rintro ⟨_, h3, _⟩
  rw [e, List.length_take, hl] at h3
  omega

/-- a reply -/
structure Rep where
  E : Int
  Value : Int
  Ids : List Int
def idOk (x : Int) : Bool := decide (0 ≤ x ∧ x ≤ 2147483647)
def mayP (r : Rep) : Bool := decide (0 ≤ r.E ∧ r.E ≤ 255) && decide (r.Ids.length ≤ 200) && r.Ids.all idOk
def idsB (l : List Int) : List UInt8 := l.flatMap fun x => bes 4 (toU x)
/-- a reply's bytes -/
def putP (r : Rep) : List UInt8 := UInt8.ofNat (toU r.E % 256) :: (bes 8 (toU r.Value) ++ (bes 2 r.Ids.length ++ idsB r.Ids))
def idAt (s : List UInt8) (i : Nat) : Int := (vls ((s.drop (11 + 4 * i)).take 4) : Nat)
def cntP (s : List UInt8) : Nat := vls ((s.drop 9).take 2)
def toldP (s : List UInt8) : Rep := ⟨((s.headD 0).toNat : Nat), toI (vls ((s.drop 1).take 8)), (List.range (cntP s)).map (idAt s)⟩
/-- the reply of bytes -/
def takeP (s : List UInt8) : Option Rep := if 11 ≤ s.length ∧ s.length = 11 + 4 * cntP s ∧ mayP (toldP s) = true then some (toldP s) else none
theorem mayP_iff (r : Rep) : mayP r = true ↔ (0 ≤ r.E ∧ r.E ≤ 255) ∧ r.Ids.length ≤ 200 ∧ ∀ x ∈ r.Ids, 0 ≤ x ∧ x ≤ 2147483647 := by
  unfold mayP idOk
  simp [and_assoc]
theorem ids_length : ∀ l : List Int, (idsB l).length = 4 * l.length
  | [] => rfl
  | x :: l => by
    show (bes 4 (toU x) ++ idsB l).length = _
    rw [List.length_append, bes_length, ids_length l, List.length_cons]
    omega
theorem putP_length (r : Rep) : (putP r).length = 11 + 4 * r.Ids.length := by
  rw [putP, List.length_cons, List.length_append, List.length_append, bes_length, bes_length, ids_length]
  omega
theorem ids_at : ∀ (l : List Int) (i : Nat) (h : i < l.length), ((idsB l).drop (4 * i)).take 4 = bes 4 (toU l[i])
  | x :: l, 0, _ => by
    show ((bes 4 (toU x) ++ idsB l).drop 0).take 4 = _
    rw [List.drop_zero, List.take_append_of_le_length (by rw [bes_length]; omega), List.take_of_length_le (by rw [bes_length]; omega)]
    rfl
  | x :: l, i + 1, h => by
    show ((bes 4 (toU x) ++ idsB l).drop (4 * (i + 1))).take 4 = _
    rw [show 4 * (i + 1) = 4 + 4 * i by omega, ← List.drop_drop, List.drop_left' (bes_length 4 _), ids_at l i (by simpa using h)]
    rfl
theorem toldP_put {r : Rep} (hv : -9223372036854775808 ≤ r.Value ∧ r.Value ≤ 9223372036854775807) (h : mayP r = true) : toldP (putP r) = r ∧ cntP (putP r) = r.Ids.length := by
  obtain ⟨h1, h2, h3⟩ := (mayP_iff r).1 h
  have hc : cntP (putP r) = r.Ids.length := by
    unfold cntP putP
    have e9 : ∀ t, (UInt8.ofNat (toU r.E % 256) :: (bes 8 (toU r.Value) ++ t)).drop 9 = t := fun t => by
      rw [List.drop_succ_cons, List.drop_left' (bes_length 8 _)]
    rw [e9, List.take_append_of_le_length (by rw [bes_length]; omega), List.take_of_length_le (by rw [bes_length]; omega), vls_bes, Nat.mod_eq_of_lt (by omega)]
  refine ⟨?_, hc⟩
  unfold toldP
  rw [hc]
  have hE : (((putP r).headD 0).toNat : Int) = r.E := by
    show (((UInt8.ofNat (toU r.E % 256)).toNat : Nat) : Int) = r.E
    rw [UInt8.toNat_ofNat']
    unfold toU
    omega
  have hV : toI (vls (((putP r).drop 1).take 8)) = r.Value := by
    unfold putP
    rw [List.drop_succ_cons, List.drop_zero, List.take_append_of_le_length (by rw [bes_length]; omega), List.take_of_length_le (by rw [bes_length]; omega), vls_bes, Nat.mod_eq_of_lt (by have := toU_lt r.Value; omega), toI_toU _ hv]
  have hI : (List.range r.Ids.length).map (idAt (putP r)) = r.Ids := by
    refine List.ext_getElem (by simp) fun i hi1 hi2 => ?_
    rw [List.getElem_map, List.getElem_range]
    unfold idAt putP
    have e11 : ∀ t : List UInt8, (UInt8.ofNat (toU r.E % 256) :: (bes 8 (toU r.Value) ++ (bes 2 r.Ids.length ++ t))).drop (11 + 4 * i) = t.drop (4 * i) := fun t => by
      rw [show 11 + 4 * i = (8 + (2 + 4 * i)) + 1 by omega, List.drop_succ_cons, ← List.drop_drop, List.drop_left' (bes_length 8 _), ← List.drop_drop, List.drop_left' (bes_length 2 _)]
    have hx := h3 r.Ids[i] (List.getElem_mem hi2)
    rw [e11, ids_at r.Ids i hi2, vls_bes]
    unfold toU
    omega
  rw [hE, hV, hI]
/-- a reply that may be is that of its bytes -/
theorem takeP_put {r : Rep} (hv : -9223372036854775808 ≤ r.Value ∧ r.Value ≤ 9223372036854775807) (h : mayP r = true) : takeP (putP r) = some r := by
  obtain ⟨h1, h2⟩ := toldP_put hv h
  unfold takeP
  rw [h1, h2, if_pos ⟨by rw [putP_length]; omega, putP_length r, h⟩]
theorem idsB_range (s : List UInt8) : ∀ n, 11 + 4 * n ≤ s.length → idsB ((List.range n).map (idAt s)) = (s.take (11 + 4 * n)).drop 11
  | 0, _ => by rw [Nat.mul_zero, Nat.add_zero, List.drop_take]; simp; rfl
  | n + 1, h => by
    have hl : ((s.drop (11 + 4 * n)).take 4).length = 4 := by rw [List.length_take, List.length_drop]; omega
    have hb := bes_vls ((s.drop (11 + 4 * n)).take 4)
    have hlt := vls_lt ((s.drop (11 + 4 * n)).take 4)
    rw [hl] at hb hlt
    have e : toU (idAt s n) = vls ((s.drop (11 + 4 * n)).take 4) := toU_nat _ (by omega)
    have e2 : idsB ((List.range (n + 1)).map (idAt s)) = idsB ((List.range n).map (idAt s)) ++ bes 4 (toU (idAt s n)) := by
      rw [List.range_succ, List.map_append]
      unfold idsB
      rw [List.flatMap_append]
      simp
    have e3 : s.take (11 + 4 * (n + 1)) = s.take (11 + 4 * n) ++ (s.drop (11 + 4 * n)).take 4 := by rw [show 11 + 4 * (n + 1) = (11 + 4 * n) + 4 by omega]; exact List.take_add
    rw [e2, idsB_range s n (by omega), e, hb, e3, List.drop_append_of_le_length (by rw [List.length_take]; omega)]
/-- what bytes tell has these bytes -/
theorem putP_take {s : List UInt8} {r : Rep} (h : takeP s = some r) : putP r = s ∧ mayP r = true ∧ (-9223372036854775808 ≤ r.Value ∧ r.Value ≤ 9223372036854775807) := by
  unfold takeP at h
  split at h
  · rename_i hh
    obtain ⟨h1, h2, h3⟩ := hh
    injection h with h
    subst h
    have hv8 : vls ((s.drop 1).take 8) < 18446744073709551616 := by
      have a := vls_lt ((s.drop 1).take 8)
      rw [show ((s.drop 1).take 8).length = 8 by rw [List.length_take, List.length_drop]; omega] at a
      omega
    refine ⟨?_, h3, toI_bnd _ hv8⟩
    have l8 : ((s.drop 1).take 8).length = 8 := by rw [List.length_take, List.length_drop]; omega
    have l2 : ((s.drop 9).take 2).length = 2 := by rw [List.length_take, List.length_drop]; omega
    have b8 := bes_vls ((s.drop 1).take 8)
    rw [l8] at b8
    have b2 := bes_vls ((s.drop 9).take 2)
    rw [l2] at b2
    have eV : toU (toldP s).Value = vls ((s.drop 1).take 8) := toU_toI _ hv8
    have eI : (toldP s).Ids = (List.range (cntP s)).map (idAt s) := rfl
    have eE : toU (toldP s).E = (s.headD 0).toNat := toU_nat _ (by have := (s.headD 0).toNat_lt; omega)
    unfold putP
    rw [eV, b8, eI, idsB_range s _ (by omega), List.length_map, List.length_range, ← h2, List.take_of_length_le (Nat.le_refl _), eE, Nat.mod_eq_of_lt (s.headD 0).toNat_lt, UInt8.ofNat_toNat]
    unfold cntP
    rw [b2]
    have e3 : (s.drop 9).take 2 ++ s.drop 11 = s.drop 9 := by
      have := List.take_append_drop 2 (s.drop 9)
      rwa [List.drop_drop] at this
    have e4 : (s.drop 1).take 8 ++ s.drop 9 = s.drop 1 := by
      have := List.take_append_drop 8 (s.drop 1)
      rwa [List.drop_drop] at this
    rw [e3, e4]
    cases s with
    | nil => simp at h1
    | cons x t => rfl
  · cases h
end Go.Proofs.Ytgcliallkfnhaaa
