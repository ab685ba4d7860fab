/- Plain journals over plain disks: what is kept, what is told behind a crash. No Go text. -/
import Derived.Test.YtidofjjghbhaaaaC1
import Derived.Test.YtidofjjghbhaaaaE0
namespace Go.Proofs.Ytidofjjghbhaaaa
set_option linter.unusedVariables false

/-- a number by eight bytes, the highest first -/
def eight (n : Nat) : List UInt8 :=
  [UInt8.ofNat (n / 72057594037927936), UInt8.ofNat (n / 281474976710656), UInt8.ofNat (n / 1099511627776), UInt8.ofNat (n / 4294967296), UInt8.ofNat (n / 16777216), UInt8.ofNat (n / 65536), UInt8.ofNat (n / 256), UInt8.ofNat n]
/-- what bytes tell, one behind the other -/
def valOf (l : List UInt8) : Nat := l.foldl (fun n b => n * 256 + b.toNat) 0
/-- the number that the first eight bytes tell, if it may be -/
def num8 (l : List UInt8) : Option Nat := if l.length < 8 then none else if valOf (l.take 8) < 4611686018427387904 then some (valOf (l.take 8)) else none
theorem eight_length (n : Nat) : (eight n).length = 8 := rfl
theorem val_eight (n : Nat) (h : n < 4611686018427387904) : valOf (eight n) = n := by
  simp [valOf, eight]
  omega
theorem take_eight (n : Nat) (b : List UInt8) : (eight n ++ b).take 8 = eight n := rfl
theorem drop_eight (n : Nat) (b : List UInt8) : (eight n ++ b).drop 8 = b := rfl
theorem num8_eight (n : Nat) (b : List UInt8) (h : n < 4611686018427387904) : num8 (eight n ++ b) = some n := by
  unfold num8
  rw [take_eight, val_eight n h, if_neg (by simp [eight_length]), if_pos h]

/-- a journal -/
structure JM where
  text : List UInt8
  base : Nat
  recs : List (List UInt8)
  broken : Bool
def JM.last (j : JM) : Nat := j.base + j.recs.length

/-- a file is cut to n bytes, if it has other ones -/
def cutJ (m : DM) (f n : Nat) : Int × DM := if (m.B f).length = n then (0, m) else m.cut (f : Int) (n : Int)
/-- a snapshot's number and text -/
def snapOf (b : List UInt8) : Option (Nat × List UInt8) :=
  if b = [] then some (0, [])
  else match scan b with
    | ([r], _, 0) => (num8 r).map fun n => (n, r.drop 8)
    | _ => none
/-- is n no number that may come next? -/
def wrongNext (base : Nat) (prev : Option Nat) (n : Nat) : Prop := match prev with | none => base + 1 < n | some p => n ≠ p + 1
instance (base : Nat) (prev : Option Nat) (n : Nat) : Decidable (wrongNext base prev n) := by unfold wrongNext; cases prev <;> infer_instance
/-- the records of numbers above the base's, if all numbers are right -/
def walkR (base : Nat) : Option Nat → List (List UInt8) → Option (List (List UInt8))
  | _, [] => some []
  | prev, r :: rs => match num8 r with
    | none => none
    | some n => if n < 1 ∨ wrongNext base prev n then none
      else (walkR base (some n) rs).map fun l => if base < n then r.drop 8 :: l else l
/-- the end of opening: two cuts -/
def openCut (m : DM) (e : Nat) (j : JM) : Int × DM × Option JM :=
  if (cutJ m 0 e).1 = 0 then
    if (cutJ (cutJ m 0 e).2 2 0).1 = 0 then (0, (cutJ (cutJ m 0 e).2 2 0).2, some j) else ((cutJ (cutJ m 0 e).2 2 0).1, (cutJ (cutJ m 0 e).2 2 0).2, none)
  else ((cutJ m 0 e).1, (cutJ m 0 e).2, none)
def openJ (m : DM) : Int × DM × Option JM :=
  match snapOf (m.B 1) with
  | none => (8, m, none)
  | some s => if (scan (m.B 0)).2.2 = 2 then (8, m, none)
    else match walkR s.1 none (scan (m.B 0)).1 with
      | none => (8, m, none)
      | some rs => openCut m (scan (m.B 0)).2.1 ⟨s.2, s.1, rs, false⟩
def appJ (m : DM) (j : JM) (b : List UInt8) : Int × DM × JM :=
  if 65528 < b.length then (4, m, j) else if j.broken then (9, m, j) else
    let a := m.app 0 (frame (eight (j.last + 1) ++ b))
    if a.1 = 4 then (4, a.2, j) else
      let s := if a.1 = 0 then a.2.syn 0 else a
      if s.1 = 0 then (0, s.2, { j with recs := j.recs ++ [b] }) else (s.1, s.2, { j with broken := true })
def snapJ (m : DM) (j : JM) (t : List UInt8) : Int × DM × JM :=
  if 65528 < t.length then (4, m, j) else if j.broken then (9, m, j) else
    let c := cutJ m 2 0
    if c.1 ≠ 0 then (c.1, c.2, { j with broken := true }) else
    let a := c.2.app 2 (frame (eight j.last ++ t))
    if a.1 = 4 then (4, a.2, j) else if a.1 ≠ 0 then (a.1, a.2, { j with broken := true }) else
    let s := a.2.syn 2
    if s.1 ≠ 0 then (s.1, s.2, { j with broken := true }) else
    let v := s.2.mov 2 1
    if v.1 ≠ 0 then (v.1, v.2, { j with broken := true }) else
    let e := v.2.cut 0 0
    if e.1 ≠ 0 then (e.1, e.2, { j with broken := true }) else (0, e.2, ⟨t, j.last, [], false⟩)

/-- records with their numbers, from a + 1 on -/
def encs (a : Nat) : List (List UInt8) → List (List UInt8)
  | [] => []
  | r :: rs => (eight (a + 1) ++ r) :: encs (a + 1) rs
theorem encs_length : ∀ (a : Nat) (rs : List (List UInt8)), (encs a rs).length = rs.length
  | _, [] => rfl
  | a, r :: rs => by simp [encs, encs_length (a + 1) rs]
theorem encs_take : ∀ (a j : Nat) (rs : List (List UInt8)), (encs a rs).take j = encs a (rs.take j)
  | _, 0, _ => by simp [encs]
  | _, _ + 1, [] => by simp [encs]
  | a, j + 1, r :: rs => by simp [encs, encs_take (a + 1) j rs]
theorem encs_app : ∀ (a : Nat) (l r : List (List UInt8)), encs a (l ++ r) = encs a l ++ encs (a + l.length) r
  | _, [], _ => rfl
  | a, x :: l, r => by
    simp only [List.cons_append, encs, encs_app (a + 1) l r, List.length_cons]
    rw [show a + 1 + l.length = a + (l.length + 1) by omega]
theorem encs_short : ∀ (a : Nat) (rs : List (List UInt8)), (∀ r ∈ rs, r.length ≤ 65528) → ∀ x ∈ encs a rs, x.length ≤ 65536
  | _, [], _, _, h => by cases h
  | a, r :: rs, h, x, hx => by
    rcases List.mem_cons.1 hx with rfl | hx
    · have := h r (by simp); rw [List.length_append, eight_length]; omega
    · exact encs_short (a + 1) rs (fun y hy => h y (by simp [hy])) x hx
theorem walk_encs (base : Nat) : ∀ (rs : List (List UInt8)) (a : Nat) (prev : Option Nat), a + rs.length < 4611686018427387904 → (match prev with | none => a ≤ base | some p => a = p) →
    walkR base prev (encs a rs) = some (rs.drop (base - a))
  | [], _, _, _, _ => by simp [encs, walkR]
  | r :: rs, a, prev, h, hp => by
    simp only [List.length_cons] at h
    rw [encs, walkR, num8_eight (a + 1) r (by omega)]
    simp only
    rw [if_neg (by unfold wrongNext; cases prev <;> simp at hp ⊢ <;> omega), walk_encs base rs (a + 1) (some (a + 1)) (by omega) rfl, drop_eight]
    by_cases hb : base < a + 1
    · rw [Option.map_some, if_pos hb, show base - a = 0 by omega, show base - (a + 1) = 0 by omega]
      rfl
    · rw [Option.map_some, if_neg hb, show base - a = (base - (a + 1)) + 1 by omega]
      rfl
theorem frames_cons_length (b : List UInt8) (ls : List (List UInt8)) : (frames (b :: ls)).length = 8 + b.length + (frames ls).length := by
  simp only [frames, List.length_append, frame_length]
/-- of a beginning of frames just those that are whole are told -/
theorem scan_prefix : ∀ (ls : List (List UInt8)) (k : Nat), (∀ b ∈ ls, b.length ≤ 65536) → k ≤ (frames ls).length →
    ∃ j c, j ≤ ls.length ∧ scan ((frames ls).take k) = (ls.take j, (frames (ls.take j)).length, c) ∧ (frames (ls.take j)).length ≤ k ∧ c ≠ 2 ∧ (∀ i, i ≤ ls.length → (frames (ls.take i)).length ≤ k → i ≤ j)
  | [], k, _, hk => ⟨0, 0, by simp, by simp [frames, scan_nil], by simp [frames], by omega, fun i hi _ => hi⟩
  | b :: ls, k, h, hk => by
    have hb := h b (by simp)
    rw [frames_cons_length] at hk
    by_cases hw : 8 + b.length ≤ k
    · obtain ⟨j, c, h1, h2, h3, h4, h5⟩ := scan_prefix ls (k - (8 + b.length)) (fun x hx => h x (by simp [hx])) (by omega)
      refine ⟨j + 1, c, by simp; omega, ?_, ?_, h4, fun i hi hik => ?_⟩
      · show scan ((frame b ++ frames ls).take k) = _
        rw [List.take_append, frame_length, List.take_of_length_le (by rw [frame_length]; omega), scan_frame b _ hb, h2, List.take_succ_cons, frames_cons_length]
      · rw [List.take_succ_cons, frames_cons_length]; omega
      · cases i with
        | zero => omega
        | succ i =>
          rw [List.take_succ_cons, frames_cons_length] at hik
          have := h5 i (by simpa using hi) (by omega)
          omega
    · have hl : ((frames (b :: ls)).take k).length = k := by rw [List.length_take, frames_cons_length]; omega
      have hi : ∀ i, i ≤ (b :: ls).length → (frames ((b :: ls).take i)).length ≤ k → i ≤ 0 := by
        intro i _ hik
        cases i with
        | zero => omega
        | succ i => rw [List.take_succ_cons, frames_cons_length] at hik; omega
      by_cases hz : k = 0
      · refine ⟨0, 0, by omega, scan_stop (by unfold stop; rw [if_pos (by omega)]), by simp [frames], by omega, hi⟩
      · refine ⟨0, 1, by omega, scan_stop ?_, by simp [frames], by omega, hi⟩
        unfold stop
        rw [if_neg (by omega)]
        by_cases h8 : k < 8
        · rw [if_pos (by omega)]
        · have e : num ((frames (b :: ls)).take k) = b.length := by
            show num ((be b.length ++ (be (crc b) ++ b) ++ frames ls).take k) = _
            obtain ⟨m, rfl⟩ : ∃ m, k = m + 4 := ⟨k - 4, by omega⟩
            show num (be b.length ++ ((be (crc b) ++ b ++ frames ls).take m)) = _
            exact num_be _ _ (by omega)
          rw [if_neg (by omega), e, if_neg (by omega), if_pos (by omega)]
theorem frames_take_le (ls : List (List UInt8)) (i : Nat) : (frames (ls.take i)).length ≤ (frames ls).length := by
  conv => rhs; rw [← List.take_append_drop i ls, frames_app, List.length_append]
  omega
theorem framesJ_take (ls : List (List UInt8)) (i : Nat) : (frames ls).take (frames (ls.take i)).length = frames (ls.take i) := by
  have e : frames ls = frames (ls.take i) ++ frames (ls.drop i) := by rw [← frames_app, List.take_append_drop]
  rw [e, List.take_left']
  rfl
end Go.Proofs.Ytidofjjghbhaaaa
