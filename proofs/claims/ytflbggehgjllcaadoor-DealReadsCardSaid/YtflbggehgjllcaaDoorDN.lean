/- Instructions and what a book knows of them, as plain data: what each operation answers and leaves. No Go text. -/
import Derived.Lib.Hide
namespace Go.Proofs.YtflbggehgjllcaaDoor

def In64 (x : Int) : Prop := -9223372036854775808 ≤ x ∧ x ≤ 9223372036854775807
/-- an instruction -/
structure Dl where
  id : Int
  a : Int
  b : Int
  sc : Int
  bc : Int
  s : Int
  t : Int
deriving DecidableEq, Inhabited
/-- its mirror -/
def Dl.mir (d : Dl) : Dl := ⟨d.id, d.b, d.a, d.bc, d.sc, d.t, d.s⟩
/-- every number is one of 64 bits -/
structure Dl.In (d : Dl) : Prop where
  id : In64 d.id
  a : In64 d.a
  b : In64 d.b
  sc : In64 d.sc
  bc : In64 d.bc
  s : In64 d.s
  t : In64 d.t
theorem Dl.In.mir {d : Dl} (h : d.In) : d.mir.In := ⟨h.id, h.b, h.a, h.bc, h.sc, h.t, h.s⟩
def zeroD : Dl := ⟨0, 0, 0, 0, 0, 0, 0⟩
/-- two of so many -/
def twoB (x y n : Int) : Bool := decide (0 ≤ x) && decide (x < n) && decide (0 ≤ y) && decide (y < n) && decide (x ≠ y)
/-- may it be? -/
def mayB (d : Dl) (mem cur : Int) : Bool := decide (1 ≤ d.id) && decide (d.id ≤ 2147483647) && twoB d.a d.b mem && twoB d.sc d.bc cur && decide (1 ≤ d.s) && decide (1 ≤ d.t)
theorem twoB_iff {x y n : Int} : twoB x y n = true ↔ 0 ≤ x ∧ x < n ∧ 0 ≤ y ∧ y < n ∧ x ≠ y := by unfold twoB; simp; omega
theorem mayB_iff {d : Dl} {mem cur : Int} : mayB d mem cur = true ↔ 1 ≤ d.id ∧ d.id ≤ 2147483647 ∧ (0 ≤ d.a ∧ d.a < mem ∧ 0 ≤ d.b ∧ d.b < mem ∧ d.a ≠ d.b) ∧ (0 ≤ d.sc ∧ d.sc < cur ∧ 0 ≤ d.bc ∧ d.bc < cur ∧ d.sc ≠ d.bc) ∧ 1 ≤ d.s ∧ 1 ≤ d.t := by
  unfold mayB
  simp only [Bool.and_eq_true, decide_eq_true_eq, twoB_iff]
  exact ⟨fun ⟨⟨⟨⟨⟨h1, h2⟩, h3⟩, h4⟩, h5⟩, h6⟩ => ⟨h1, h2, h3, h4, h5, h6⟩, fun ⟨h1, h2, h3, h4, h5, h6⟩ => ⟨⟨⟨⟨⟨h1, h2⟩, h3⟩, h4⟩, h5⟩, h6⟩⟩
theorem mayB_mir {d : Dl} {mem cur : Int} : mayB d.mir mem cur = mayB d mem cur := by
  rw [Bool.eq_iff_iff, mayB_iff, mayB_iff]; unfold Dl.mir; dsimp only; omega

/-- what a book knows of an Id -/
structure En where
  d : Dl
  st : Int
  ask : Int
  nth : Int
deriving DecidableEq, Inhabited
def En.open (e : En) : Bool := decide (e.st = 1) || decide (e.st = 2)
/-- as who a member may speak -/
def En.side (e : En) (m : Int) : Int := if m = e.d.a then 1 else if m = e.d.b ∧ e.st ≠ 1 then 2 else 0
/-- one side asks: of an open one -/
def En.asks (e : En) (side : Int) : En :=
  if e.st = 1 then { e with st := 4 }
  else
    let k : Int := if e.ask = 0 then side else 3
    if k = 3 then { e with ask := k, st := 4 } else { e with ask := k }
/-- may it stand so? -/
def En.may (e : En) : Bool :=
  if e.st = 1 then !decide (0 < e.nth) && decide (e.ask = 0)
  else if e.st = 2 ∨ e.st = 3 then decide (0 < e.nth) && decide (e.ask < 3)
  else if e.st = 4 then decide (e.ask = 0) || (decide (0 < e.nth) && decide (e.ask ≤ 3))
  else false

/-- a book -/
structure Bk where
  mem : Int
  cur : Int
  l : List En
  many : Nat
/-- an Id's place -/
def atL : List En → Int → Option Nat
  | [], _ => none
  | e :: r, id => if e.d.id = id then some 0 else (atL r id).map (· + 1)
theorem atL_some : ∀ {l : List En} {id : Int} {i : Nat}, atL l id = some i → ∃ h : i < l.length, l[i].d.id = id
  | [], _, _, h => by simp [atL] at h
  | e :: r, id, i, h => by
    unfold atL at h
    split at h
    · cases h; exact ⟨by simp, by simpa⟩
    · obtain ⟨j, hj, rfl⟩ := Option.map_eq_some_iff.1 h
      obtain ⟨h1, h2⟩ := atL_some hj
      exact ⟨by simp; omega, by simpa using h2⟩
theorem atL_none : ∀ {l : List En} {id : Int}, atL l id = none → ∀ e ∈ l, e.d.id ≠ id
  | [], _, _, e, he => by simp at he
  | x :: r, id, h, e, he => by
    unfold atL at h
    split at h
    · cases h
    · have h2 : atL r id = none := by simpa using h
      rcases List.mem_cons.1 he with rfl | he
      · assumption
      · exact atL_none h2 e he
theorem atL_of_none : ∀ {l : List En} {id : Int}, (∀ e ∈ l, e.d.id ≠ id) → atL l id = none
  | [], _, _ => rfl
  | x :: r, id, h => by
    unfold atL
    rw [if_neg (h x (by simp)), atL_of_none fun e he => h e (by simp [he])]; rfl
theorem atL_app : ∀ (l : List En) (e : En) (id : Int), atL (l ++ [e]) id = match atL l id with | some i => some i | none => if e.d.id = id then some l.length else none
  | [], e, id => by simp [atL]
  | x :: r, e, id => by
    rw [List.cons_append]
    unfold atL
    split
    · rfl
    · rw [atL_app r e id]
      rcases atL r id with _ | j
      · simp only [Option.map_none]
        split <;> simp
      · simp
/-- the Ids do not turn -/
theorem atL_set : ∀ (l : List En) (i : Nat) (e : En) (id : Int), (∀ h : i < l.length, e.d.id = l[i].d.id) → atL (l.set i e) id = atL l id
  | [], _, _, _, _ => by simp
  | x :: r, 0, e, id, h => by
    have := h (by simp)
    simp at this
    simp [atL, this]
  | x :: r, i + 1, e, id, h => by
    rw [List.set_cons_succ]
    unfold atL
    rw [atL_set r i e id fun hl => by have := h (by simpa using hl); rw [this, List.getElem_cons_succ]]
theorem atL_get : ∀ {l : List En} {i : Nat} (h : i < l.length), (l.map (·.d.id)).Nodup → atL l l[i].d.id = some i
  | [], i, h, _ => by simp at h
  | x :: r, 0, h, _ => by simp [atL]
  | x :: r, i + 1, h, hn => by
    rw [List.map_cons, List.nodup_cons] at hn
    unfold atL
    have hl : i < r.length := by simpa using h
    rw [if_neg (fun e => hn.1 (by rw [e]; simp only [List.getElem_cons_succ]; exact List.mem_map.2 ⟨r[i], List.getElem_mem hl, rfl⟩))]
    simp only [List.getElem_cons_succ]
    rw [atL_get hl hn.2]; rfl

/-- Submit -/
def Bk.sub (b : Bk) (d : Dl) : (Bool × Int) × Bk :=
  if mayB d b.mem b.cur = false then ((false, 1), b)
  else match atL b.l d.id with
    | none => if 200 ≤ b.l.length then ((false, 4), b) else ((false, 0), { b with l := b.l ++ [⟨d, 1, 0, 0⟩] })
    | some i =>
      let x := b.l.getD i default
      if x.st ≠ 1 ∨ x.d.a = d.a then ((false, 6), b)
      else if d ≠ x.d.mir then ((false, 12), b)
      else ((true, 0), { b with l := b.l.set i { x with st := 2, nth := (b.many : Int) + 1 }, many := b.many + 1 })
/-- Rescind -/
def Bk.res (b : Bk) (m id : Int) : (Int × Int) × Bk :=
  match atL b.l id with
  | none => ((0, 5), b)
  | some i =>
    let x := b.l.getD i default
    if x.side m = 0 then ((0, 5), b)
    else if x.open = false then ((0, 7), b)
    else if x.ask = x.side m ∨ x.ask = 3 then ((0, 6), b)
    else (((x.asks (x.side m)).st, 0), { b with l := b.l.set i (x.asks (x.side m)) })
/-- Settle -/
def Bk.set (b : Bk) (id : Int) : Int × Bk :=
  match atL b.l id with
  | none => (5, b)
  | some i =>
    let x := b.l.getD i default
    if x.st ≠ 2 then (7, b) else (0, { b with l := b.l.set i { x with st := 3 } })
/-- one that is removed -/
def En.hit (e : En) (m : Int) : Bool := e.open && (decide (e.d.a = m) || decide (e.d.b = m))
def En.rem (e : En) (m : Int) : En := if e.hit m then { e with st := 4 } else e
/-- Remove -/
def Bk.rem (b : Bk) (m : Int) : List Int × Bk := ((b.l.filter (·.hit m)).map (·.d.id), { b with l := b.l.map (·.rem m) })
def Bk.state (b : Bk) (id : Int) : Int := match atL b.l id with | none => 0 | some i => (b.l.getD i default).st
def Bk.deal (b : Bk) (id : Int) : Dl × Bool := match atL b.l id with | none => (zeroD, false) | some i => ((b.l.getD i default).d, true)
/-- All: of those that are matched, by the order in which they were -/
def lowest (l : List En) : List En := l.mergeSort fun x y => decide (x.nth ≤ y.nth)
def Bk.all (b : Bk) (st : Int) : List Int :=
  let those := b.l.filter fun e => decide (e.st = st)
  (if st = 2 then lowest those else those).map (·.d.id)

/-- what a book keeps to -/
structure Bk.Ok (b : Bk) : Prop where
  mem : 1 ≤ b.mem ∧ b.mem ≤ 16
  cur : 1 ≤ b.cur ∧ b.cur ≤ 8
  len : b.l.length ≤ 200
  ids : (b.l.map (·.d.id)).Nodup
  may : ∀ e ∈ b.l, mayB e.d b.mem b.cur = true ∧ e.d.In ∧ e.may = true ∧ 0 ≤ e.ask ∧ 0 ≤ e.nth ∧ e.nth ≤ (b.many : Int)
  nth : ((b.l.filter fun e => decide (0 < e.nth)).map (·.nth)).Perm ((List.range b.many).map fun (k : Nat) => (k : Int) + 1)
end Go.Proofs.YtflbggehgjllcaaDoor
