/- Plain lists: four bytes of a number, a record's frame, what stands in bytes; what was laid is told, a part of it as far as it is whole, and a turned byte is found. No Go text. -/
import Derived.Test.YtghebijikdnikaaC0
namespace Go.Proofs.Ytghebijikdnikaa

/-- a number by four bytes, the highest first -/
def be (n : Nat) : List UInt8 := [UInt8.ofNat (n / 16777216), UInt8.ofNat (n / 65536), UInt8.ofNat (n / 256), UInt8.ofNat n]
/-- the number that the first four bytes tell -/
def num : List UInt8 → Nat
  | a :: b :: c :: d :: _ => a.toNat * 16777216 + b.toNat * 65536 + c.toNat * 256 + d.toNat
  | _ => 0
theorem be_length (n : Nat) : (be n).length = 4 := rfl
theorem num_be (n : Nat) (l : List UInt8) (h : n < 4294967296) : num (be n ++ l) = n := by
  simp [be, num]
  omega
theorem num_lt : ∀ (l : List UInt8), num l < 4294967296
  | a :: b :: c :: d :: _ => by
    have := a.toNat_lt; have := b.toNat_lt; have := c.toNat_lt; have := d.toNat_lt
    simp only [num]; omega
  | [] => by simp [num]
  | [_] => by simp [num]
  | [_, _] => by simp [num]
  | [_, _, _] => by simp [num]

/-- a record's frame -/
def frame (b : List UInt8) : List UInt8 := be b.length ++ (be (crc b) ++ b)
def frames : List (List UInt8) → List UInt8
  | [] => []
  | b :: r => frame b ++ frames r
theorem frame_length (b : List UInt8) : (frame b).length = 8 + b.length := by simp [frame, be_length]; omega
theorem frames_app : ∀ (l r : List (List UInt8)), frames (l ++ r) = frames l ++ frames r
  | [], _ => rfl
  | b :: l, r => by show frame b ++ frames (l ++ r) = frame b ++ frames l ++ frames r; rw [frames_app l r, List.append_assoc]
/-- how many bytes there are together, and one more a record -/
def tot : List (List UInt8) → Nat
  | [] => 0
  | b :: r => b.length + 1 + tot r
theorem tot_app : ∀ (l r : List (List UInt8)), tot (l ++ r) = tot l + tot r
  | [], r => by simp [tot]
  | b :: l, r => by show b.length + 1 + tot (l ++ r) = b.length + 1 + tot l + tot r; rw [tot_app l r]; omega
theorem tot_length : ∀ (l : List (List UInt8)), l.length ≤ tot l
  | [] => Nat.le_refl _
  | b :: r => by have := tot_length r; simp only [tot, List.length_cons]; omega
theorem frames_length : ∀ (l : List (List UInt8)), (frames l).length + l.length = tot l + 8 * l.length
  | [] => rfl
  | b :: r => by have := frames_length r; simp only [frames, tot, List.length_append, List.length_cons, frame_length]; omega
theorem tot_mem : ∀ {l : List (List UInt8)} {b : List UInt8}, b ∈ l → b.length < tot l
  | a :: r, b, h => by
    rcases List.mem_cons.mp h with rfl | h
    · simp only [tot]; omega
    · have := tot_mem h; simp only [tot]; omega

/-- what is behind the frames, if no whole one stands first -/
def stop (l : List UInt8) : Option Nat :=
  if l.length = 0 then some 0
  else if l.length < 8 then some 1
  else if 65536 < num l then some 2
  else if l.length < 8 + num l then some 1
  else if crc ((l.drop 8).take (num l)) = num (l.drop 4) then none
  else if l.length = 8 + num l then some 1 else some 2
def scanF : Nat → List UInt8 → List (List UInt8) × Nat × Nat
  | 0, _ => ([], 0, 0)
  | f + 1, l => match stop l with
    | some c => ([], 0, c)
    | none => let r := scanF f (l.drop (8 + num l)); ((l.drop 8).take (num l) :: r.1, 8 + num l + r.2.1, r.2.2)
/-- what stands in bytes: the records, how many bytes their frames have, what is behind them -/
def scan (l : List UInt8) : List (List UInt8) × Nat × Nat := scanF (l.length + 1) l
theorem stop_none {l : List UInt8} (h : stop l = none) : 8 ≤ l.length ∧ num l ≤ 65536 ∧ 8 + num l ≤ l.length ∧ crc ((l.drop 8).take (num l)) = num (l.drop 4) := by
  unfold stop at h
  by_cases h0 : l.length = 0
  · rw [if_pos h0] at h; cases h
  by_cases h8 : l.length < 8
  · rw [if_neg h0, if_pos h8] at h; cases h
  by_cases hn : 65536 < num l
  · rw [if_neg h0, if_neg h8, if_pos hn] at h; cases h
  by_cases hl : l.length < 8 + num l
  · rw [if_neg h0, if_neg h8, if_neg hn, if_pos hl] at h; cases h
  by_cases hc : crc ((l.drop 8).take (num l)) = num (l.drop 4)
  · exact ⟨by omega, by omega, by omega, hc⟩
  rw [if_neg h0, if_neg h8, if_neg hn, if_neg hl, if_neg hc] at h
  by_cases he : l.length = 8 + num l
  · rw [if_pos he] at h; cases h
  · rw [if_neg he] at h; cases h
theorem scanF_fuel : ∀ (f g : Nat) (l : List UInt8), l.length < f → l.length < g → scanF f l = scanF g l
  | 0, _, _, h, _ => absurd h (by omega)
  | f + 1, 0, _, _, h => absurd h (by omega)
  | f + 1, g + 1, l, hf, hg => by
    simp only [scanF]
    cases e : stop l with
    | some c => rfl
    | none =>
      obtain ⟨h8, hn, hl, _⟩ := stop_none e
      have := scanF_fuel f g (l.drop (8 + num l)) (by simp; omega) (by simp; omega)
      simp only [this]
theorem scan_stop {l : List UInt8} {c : Nat} (h : stop l = some c) : scan l = ([], 0, c) := by simp [scan, scanF, h]
theorem scan_more {l : List UInt8} (h : stop l = none) : scan l = ((l.drop 8).take (num l) :: (scan (l.drop (8 + num l))).1, 8 + num l + (scan (l.drop (8 + num l))).2.1, (scan (l.drop (8 + num l))).2.2) := by
  obtain ⟨h8, hn, hl, _⟩ := stop_none h
  have e := scanF_fuel l.length ((l.drop (8 + num l)).length + 1) (l.drop (8 + num l)) (by simp; omega) (by simp)
  unfold scan
  rw [show scanF (l.length + 1) l = _ from rfl, scanF, h]
  simp only [e]

/-- the parts of bytes that begin with a number, a check, and a record's bytes or others -/
theorem parts (n c : Nat) (b r : List UInt8) (hn : n < 4294967296) (hc : c < 4294967296) (hb : b.length = n) :
    num (be n ++ (be c ++ (b ++ r))) = n ∧ num ((be n ++ (be c ++ (b ++ r))).drop 4) = c ∧ ((be n ++ (be c ++ (b ++ r))).drop 8).take n = b ∧ (be n ++ (be c ++ (b ++ r))).drop (8 + n) = r ∧ (be n ++ (be c ++ (b ++ r))).length = 8 + n + r.length := by
  refine ⟨num_be n _ hn, ?_, ?_, ?_, ?_⟩
  · show num (be c ++ (b ++ r)) = c
    exact num_be c _ hc
  · show (b ++ r).take n = b
    rw [← hb, List.take_left']; rfl
  · rw [← List.drop_drop]
    show (b ++ r).drop n = r
    rw [← hb, List.drop_left']; rfl
  · simp [be_length]; omega
theorem scan_frame (b r : List UInt8) (h : b.length ≤ 65536) : scan (frame b ++ r) = (b :: (scan r).1, 8 + b.length + (scan r).2.1, (scan r).2.2) := by
  have e : frame b ++ r = be b.length ++ (be (crc b) ++ (b ++ r)) := by simp [frame]
  obtain ⟨h1, h2, h3, h4, h5⟩ := parts b.length (crc b) b r (by omega) (crc_lt b) rfl
  rw [← e] at h1 h2 h3 h4 h5
  have hs : stop (frame b ++ r) = none := by
    unfold stop
    rw [h1, h2, h3, h5, if_neg (by omega), if_neg (by omega), if_neg (by omega), if_neg (by omega), if_pos rfl]
  rw [scan_more hs, h1, h3, h4]
theorem scan_frames : ∀ (ls : List (List UInt8)) (r : List UInt8), (∀ b ∈ ls, b.length ≤ 65536) →
    scan (frames ls ++ r) = (ls ++ (scan r).1, (frames ls).length + (scan r).2.1, (scan r).2.2)
  | [], r, _ => by simp [frames]
  | b :: ls, r, h => by
    show scan (frame b ++ frames ls ++ r) = _
    rw [List.append_assoc, scan_frame b _ (h b (by simp)), scan_frames ls r (fun x hx => h x (by simp [hx]))]
    simp only [frames, List.length_append, frame_length, List.cons_append]
    congr 2; omega
theorem scan_nil : scan [] = ([], 0, 0) := rfl
/-- WHAT WAS LAID IS TOLD. -/
theorem scan_laid (ls : List (List UInt8)) (h : ∀ b ∈ ls, b.length ≤ 65536) : scan (frames ls) = (ls, (frames ls).length, 0) := by
  have e := scan_frames ls [] h
  simpa [scan_nil] using e
/-- OF A PART JUST THOSE THAT ARE WHOLE ARE TOLD. -/
theorem scan_part : ∀ (ls : List (List UInt8)) (k : Nat), (∀ b ∈ ls, b.length ≤ 65536) → k ≤ (frames ls).length →
    ∃ j o c, j ≤ ls.length ∧ scan ((frames ls).take k) = (ls.take j, o, c) ∧ o ≤ k ∧ (c = 0 ↔ o = k) ∧ c ≠ 2 ∧ (∀ h : j < ls.length, k < o + 8 + (ls[j]).length)
  | [], k, _, hk => ⟨0, 0, 0, by simp, by simp [frames, scan_nil], by omega, by simp [frames] at hk; simp [hk], by omega, by simp⟩
  | b :: ls, k, h, hk => by
    have hb := h b (by simp)
    simp only [frames, List.length_append, frame_length] at hk
    by_cases hw : 8 + b.length ≤ k
    · obtain ⟨j, o, c, h1, h2, h3, h4, h5, h6⟩ := scan_part ls (k - (8 + b.length)) (fun x hx => h x (by simp [hx])) (by omega)
      refine ⟨j + 1, 8 + b.length + o, c, by simp; omega, ?_, by omega, by rw [h4]; omega, h5, ?_⟩
      · show scan ((frame b ++ frames ls).take k) = _
        rw [List.take_append, frame_length, List.take_of_length_le (by rw [frame_length]; omega), scan_frame b _ hb, h2]
        rfl
      · intro hj
        have := h6 (by simpa using hj)
        simp only [List.getElem_cons_succ]
        omega
    · have hl : ((frames (b :: ls)).take k).length = k := by simp [frames, frame_length]; omega
      have h0 : ∀ hj : 0 < (b :: ls).length, k < 0 + 8 + ((b :: ls)[0]).length := fun _ => by simp; omega
      by_cases hz : k = 0
      · refine ⟨0, 0, 0, by omega, scan_stop (by unfold stop; rw [if_pos (by omega)]), by omega, by omega, by omega, h0⟩
      · refine ⟨0, 0, 1, by omega, scan_stop ?_, by omega, by omega, by omega, h0⟩
        unfold stop
        rw [if_neg (by omega)]
        by_cases h8 : k < 8
        · rw [if_pos (by omega)]
        · have e : num ((frames (b :: ls)).take k) = b.length := by
            show num ((be b.length ++ (be (crc b) ++ b) ++ frames ls).take k) = _
            obtain ⟨m, rfl⟩ : ∃ m, k = m + 4 := ⟨k - 4, by omega⟩
            show num (be b.length ++ ((be (crc b) ++ b ++ frames ls).take m)) = _
            exact num_be _ _ (by omega)
          rw [if_neg (by omega), e, if_neg (by omega), if_pos (by omega)]
/-- A TURNED BYTE IS FOUND: what is behind the records ahead is torn, if the record was the last one, else bad. -/
theorem scan_turned (ls rs : List (List UInt8)) (b c : List UInt8) (h : ∀ b ∈ ls, b.length ≤ 65536) (hb : b.length ≤ 65536) (hl : c.length = b.length) (hc : crc c ≠ crc b) :
    scan (frames ls ++ (be b.length ++ (be (crc b) ++ (c ++ frames rs)))) = (ls, (frames ls).length, if rs = [] then 1 else 2) := by
  obtain ⟨h1, h2, h3, h4, h5⟩ := parts b.length (crc b) c (frames rs) (by omega) (crc_lt b) hl
  have hs : stop (be b.length ++ (be (crc b) ++ (c ++ frames rs))) = some (if rs = [] then 1 else 2) := by
    unfold stop
    rw [h1, h2, h3, h5, if_neg (by omega), if_neg (by omega), if_neg (by omega), if_neg (by omega), if_neg hc]
    by_cases hr : rs = []
    · rw [if_pos hr, if_pos (by rw [hr]; simp [frames])]
    · rw [if_neg hr, if_neg]
      have : 0 < rs.length := List.length_pos_iff.mpr hr
      have := frames_length rs
      have := tot_length rs
      omega
  rw [scan_frames ls _ h, scan_stop hs]
  simp

theorem crc_nine : crc [49, 50, 51, 52, 53, 54, 55, 56, 57] = 3421780262 := by decide +kernel
theorem scan_torn (l : List UInt8) (k : Nat) (h : l.length ≤ 65536) (h0 : 0 < k) (hk : k < 8 + l.length) : scan ((frame l).take k) = ([], 0, 1) := by
  obtain ⟨j, o, c, h1, h2, h3, h4, h5, h6⟩ := scan_part [l] k (by simpa using h) (by simp [frames, frame_length]; omega)
  have e : frames [l] = frame l := by simp [frames]
  rw [e] at h2
  have hl : ((frame l).take k).length = k := by simp [frame_length]; omega
  refine scan_stop ?_
  unfold stop
  rw [if_neg (by omega)]
  by_cases h8 : k < 8
  · rw [if_pos (by omega)]
  · have e : num ((frame l).take k) = l.length := by
      obtain ⟨m, rfl⟩ : ∃ m, k = m + 4 := ⟨k - 4, by omega⟩
      show num (be l.length ++ ((be (crc l) ++ l).take m)) = _
      exact num_be _ _ (by omega)
    rw [if_neg (by omega), e, if_neg (by omega), if_pos (by omega)]
end Go.Proofs.Ytghebijikdnikaa
