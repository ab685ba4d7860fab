/- Runs of operations under two programs that share their tables and part only in their functions: an operation that never asks for a function answers alike. Conditions: none.
  The operations of slices.SortFunc's family ask for nothing of the program but its tables. Conditions: none.
  Two runs in step: of one program with a function value F1, and of another one, with the same tables, with F2 in its place: what moves them about, and never looks at them, goes alike. Conditions: the code is tame.
  One step of a frame of tame code, of either run. Conditions: the code is tame.
  Both runs, step by step. Conditions: those of 'Sit'.
  Both runs, step by step: whatever the second one does the first one does too, or the second one ends, or panics. Conditions: those of 'Sit'.
  Both runs, step by step: the operations, and the whole step. Conditions: those of 'Sit'.
  A contract that holds where a closure is handed over holds where the method value is, over the program without that closure. Conditions: those of 'Sit'. -/
import Derived.Calls
import Derived.Tactics
namespace Go.Proofs.YthocnlalahknjaaGreat
open Go

/-- A halt that leaves the goroutine running or ends the run. -/
def Mild : Halt → Prop
  | .panic _ | .stuck _ | .unsupported _ => True
  | _ => False

/-- The tree asks for nothing of the program but its tables, and halts mildly. -/
def Tab (p q : Program) {α : Type} : Sem α → Prop
  | .pure _ => True
  | .load _ _ k => ∀ v, Tab p q (k v)
  | .store _ _ _ k => Tab p q k
  | .new _ k => ∀ n, Tab p q (k n)
  | .shape _ k => ∀ s, Tab p q (k s)
  | .freeze _ _ k => Tab p q k
  | .frozen _ k => ∀ b, Tab p q (k b)
  | .getObj _ k => ∀ o, Tab p q (k o)
  | .setObj _ _ k => Tab p q k
  | .choose _ k => ∀ n, Tab p q (k n)
  | .sys _ _ => False
  | .program k => k p = k q ∧ Tab p q (k p)
  | .mark _ k => Tab p q k
  | .halt h => Mild h

theorem Tab.bind {p q : Program} {α β : Type} {s : Sem α} {f : α → Sem β} (hs : Tab p q s) (hf : ∀ a, Tab p q (f a)) : Tab p q (s >>= f) := by
  show Tab p q (s.bind f)
  induction s with
  | pure a => exact hf a
  | load m a k ih => intro v; exact ih v (hs v)
  | store m a v k ih => exact ih hs
  | new o k ih => intro n; exact ih n (hs n)
  | shape r k ih => intro n; exact ih n (hs n)
  | freeze a n k ih => exact ih hs
  | frozen a k ih => intro n; exact ih n (hs n)
  | getObj r k ih => intro n; exact ih n (hs n)
  | setObj r o k ih => exact ih hs
  | choose r k ih => intro n; exact ih n (hs n)
  | sys c k ih => exact hs.elim
  | program k ih => exact ⟨by show (k p).bind f = (k q).bind f; rw [hs.1], ih p hs.2⟩
  | mark m k ih => exact ih hs
  | halt h => exact hs

section same
variable (T : Tables) (f f' : Array Func)

theorem byteOfCell_same : ∀ d t off, byteOfCell ⟨T, f⟩ d t off = byteOfCell ⟨T, f'⟩ d t off := by
  intro d
  induction d with
  | zero => intro t off; rfl
  | succ d ih => intro t off; simp only [byteOfCell, ih]; rfl

theorem cellHolding_same : ∀ d t off, cellHolding ⟨T, f⟩ d t off = cellHolding ⟨T, f'⟩ d t off := by
  intro d
  induction d with
  | zero => intro t off; rfl
  | succ d ih => intro t off; simp only [cellHolding, ih]; rfl

theorem plainCell_same : ∀ d t off, plainCell ⟨T, f⟩ d t off = plainCell ⟨T, f'⟩ d t off := by
  intro d
  induction d with
  | zero => intro t off; rfl
  | succ d ih => intro t off; simp only [plainCell, ih]; rfl

theorem tight_same : ∀ d t, tight ⟨T, f⟩ d t = tight ⟨T, f'⟩ d t := by
  intro d
  induction d with
  | zero => intro t; rfl
  | succ d ih => intro t; simp only [tight, ih]; rfl

theorem cellOfByte_same : ∀ d t off, cellOfByte ⟨T, f⟩ d t off = cellOfByte ⟨T, f'⟩ d t off := by
  intro d
  induction d with
  | zero => intro t off; rfl
  | succ d ih => intro t off; simp only [cellOfByte, ih]; rfl

theorem seenCells_same (c : Array Value) (e : TypeId) : ∀ n x s, seenCells ⟨T, f⟩ c e n x s = seenCells ⟨T, f'⟩ c e n x s := by
  intro d
  induction d with
  | zero => intro x s; rfl
  | succ d ih => intro x s; simp only [seenCells, ih, cellHolding_same T f f']; rfl

theorem seen_same (w : World) (a : Addr) (u : TypeId) (k : Addr) (b : Bool) : w.seen ⟨T, f⟩ a u k b = w.seen ⟨T, f'⟩ a u k b := by
  simp only [World.seen, plainCell_same T f f', byteOfCell_same T f f', seenCells_same T f f']; rfl

theorem viewLoad_same (w : World) (a : Addr) (u : TypeId) (k : Addr) (b : Bool) : w.viewLoad ⟨T, f⟩ a u k b = w.viewLoad ⟨T, f'⟩ a u k b := by
  simp only [World.viewLoad, seen_same T f f']

theorem viewStore_same (w : World) (a : Addr) (u : TypeId) (k : Addr) (v : Value) (b : Bool) : w.viewStore ⟨T, f⟩ a u k v b = w.viewStore ⟨T, f'⟩ a u k v b := by
  simp only [World.viewStore, seen_same T f f', tight_same T f f']; rfl

theorem farLoad_same (w : World) (a : Addr) (b : Bool) : w.farLoad ⟨T, f⟩ a b = w.farLoad ⟨T, f'⟩ a b := by
  simp only [World.farLoad, viewLoad_same T f f']

theorem farStore_same (w : World) (a : Addr) (v : Value) (b : Bool) : w.farStore ⟨T, f⟩ a v b = w.farStore ⟨T, f'⟩ a v b := by
  simp only [World.farStore, viewStore_same T f f']

theorem noCell_mild (w : World) (a : Addr) (s : String) : Mild (w.noCell a s) := by
  unfold World.noCell; split <;> exact trivial

theorem farLoad_mild {p : Program} {w : World} {a : Addr} {b : Bool} {h : Halt} (e : w.farLoad p a b = .error h) : Mild h := by
  unfold World.farLoad at e
  split at e
  · split at e <;> simp at e; subst e; exact trivial
  · simp at e; subst e; exact noCell_mild _ _ _

theorem farStore_mild {p : Program} {w : World} {a : Addr} {v : Value} {b : Bool} {h : Halt} (e : w.farStore p a v b = .error h) : Mild h := by
  unfold World.farStore at e
  split at e
  · split at e <;> simp at e; subst e; exact trivial
  · simp at e; subst e; exact noCell_mild _ _ _

/-- ALIKE UNDER BOTH. -/
theorem Tab.run {α : Type} {s : Sem α} (h : Tab ⟨T, f⟩ ⟨T, f'⟩ s) : ∀ w, s.run ⟨T, f⟩ w = s.run ⟨T, f'⟩ w ∧ ∀ e w', s.run ⟨T, f'⟩ w = .halt e w' → Mild e := by
  induction s with
  | pure a => intro w; exact ⟨rfl, fun e w' h => by simp [Sem.run] at h⟩
  | load m a k ih =>
    intro w
    simp only [Sem.run, farLoad_same T f f']
    split
    · exact ih _ (h _) w
    · split
      · exact ih _ (h _) w
      · next e => exact ⟨rfl, fun e' w' h' => by cases h'; exact farLoad_mild e⟩
  | store m a v k ih =>
    intro w
    cases v <;> simp only [Sem.run, farStore_same T f f'] <;> first | exact ⟨trivial, fun e w' h' => by cases h'; exact trivial⟩ | skip
    all_goals
      split
      · split
        · exact ⟨rfl, fun e' w' h' => by cases h'; exact trivial⟩
        · exact ih h _
      · split
        · exact ih h _
        · next e => exact ⟨rfl, fun e' w' h' => by cases h'; exact farStore_mild e⟩
  | new o k ih => intro w; exact ih _ (h _) _
  | shape r k ih => intro w; exact ih _ (h _) _
  | freeze a n k ih => intro w; exact ih h _
  | frozen a k ih => intro w; exact ih _ (h _) _
  | getObj r k ih =>
    intro w
    simp only [Sem.run]
    split
    · exact ⟨rfl, fun e' w' h' => by cases h'; exact trivial⟩
    · exact ih _ (h _) _
    · exact ⟨rfl, fun e' w' h' => by cases h'; exact trivial⟩
  | setObj r o k ih =>
    intro w
    simp only [Sem.run]
    split
    · exact ⟨rfl, fun e' w' h' => by cases h'; exact trivial⟩
    · exact ih h _
    · exact ⟨rfl, fun e' w' h' => by cases h'; exact trivial⟩
  | choose q k ih =>
    intro w
    simp only [Sem.run]
    split
    · exact ih _ (h _) _
    · exact ih _ (h _) _
  | sys c k ih => exact h.elim
  | program k ih =>
    intro w
    simp only [Sem.run]
    rw [← h.1]
    exact ih _ h.2 w
  | mark m k ih => intro w; exact ih h _
  | halt e => intro w; exact ⟨rfl, fun e' w' h' => by cases h'; exact h⟩

end same
end Go.Proofs.YthocnlalahknjaaGreat
namespace Go.Proofs.YthocnlalahknjaaGreat
open Go

section ops
variable {T : Tables} {f f' : Array Func}

theorem tab_pure {α : Type} (a : α) : Tab ⟨T, f⟩ ⟨T, f'⟩ (pure a : Sem α) := trivial
theorem tab_stuck {α : Type} (s : String) : Tab ⟨T, f⟩ ⟨T, f'⟩ (stuck s : Sem α) := trivial
theorem tab_unsupported {α : Type} (u : Unsupported) : Tab ⟨T, f⟩ ⟨T, f'⟩ (unsupported u : Sem α) := trivial
theorem tab_goPanic {α : Type} (v : Value) : Tab ⟨T, f⟩ ⟨T, f'⟩ (goPanic v : Sem α) := trivial
theorem tab_choose (q : Question) : Tab ⟨T, f⟩ ⟨T, f'⟩ (choose q) := fun _ => trivial
theorem tab_load (a : Addr) (m : Mode) : Tab ⟨T, f⟩ ⟨T, f'⟩ (load a m) := fun _ => trivial
theorem tab_store (a : Addr) (v : Value) (m : Mode) : Tab ⟨T, f⟩ ⟨T, f'⟩ (store a v m) := trivial
theorem tab_newObj (o : Obj) : Tab ⟨T, f⟩ ⟨T, f'⟩ (newObj o) := fun _ => trivial
theorem tab_shape (r : Nat) : Tab ⟨T, f⟩ ⟨T, f'⟩ (shape r) := fun _ => trivial
theorem tab_frozen (a : Addr) : Tab ⟨T, f⟩ ⟨T, f'⟩ (frozen a) := fun _ => trivial
theorem tab_freeze (a : Addr) (n : Nat) : Tab ⟨T, f⟩ ⟨T, f'⟩ (freeze a n) := trivial
theorem tab_getObj (r : Nat) : Tab ⟨T, f⟩ ⟨T, f'⟩ (getObj r) := fun _ => trivial

theorem tab_program {α : Type} {k : Program → Sem α} (h : k ⟨T, f⟩ = k ⟨T, f'⟩) (h' : Tab ⟨T, f⟩ ⟨T, f'⟩ (k ⟨T, f⟩)) : Tab ⟨T, f⟩ ⟨T, f'⟩ (program >>= k) := ⟨h, h'⟩

theorem tab_typeInfo (t : TypeId) : Tab ⟨T, f⟩ ⟨T, f'⟩ (typeInfo t) := tab_program rfl (by split <;> trivial)
theorem tab_underlying (t : TypeId) : Tab ⟨T, f⟩ ⟨T, f'⟩ (underlying t) := tab_program rfl (by split <;> trivial)
theorem tab_sizeOf (t : TypeId) : Tab ⟨T, f⟩ ⟨T, f'⟩ (Go.sizeOf t) := (tab_typeInfo t).bind fun _ => trivial
theorem tab_zeroValue (t : TypeId) : Tab ⟨T, f⟩ ⟨T, f'⟩ (zeroValue t) := (tab_typeInfo t).bind fun _ => by split <;> trivial
theorem tab_isAgg (t : TypeId) : Tab ⟨T, f⟩ ⟨T, f'⟩ (isAgg t) := (tab_underlying t).bind fun _ => by split <;> trivial

theorem tab_loadCellsFrom (a : Addr) : ∀ n i acc, Tab ⟨T, f⟩ ⟨T, f'⟩ (loadCellsFrom a i n acc) := by
  intro n
  induction n with
  | zero => intro i acc; trivial
  | succ n ih => intro i acc; exact (tab_load _ _).bind fun _ => ih _ _

theorem tab_storeCells (a : Addr) : ∀ vs i, Tab ⟨T, f⟩ ⟨T, f'⟩ (storeCells a vs i) := by
  intro vs
  induction vs with
  | nil => intro i; trivial
  | cons v vs ih => intro i; exact (tab_store _ _ _).bind fun _ => ih _

theorem tab_loadVar (t : TypeId) (a : Addr) : Tab ⟨T, f⟩ ⟨T, f'⟩ (loadVar t a) := by
  refine (tab_isAgg t).bind fun b => ?_
  split
  · exact (tab_sizeOf t).bind fun _ => (tab_loadCellsFrom _ _ _ _).bind fun _ => trivial
  · exact tab_load _ _

theorem tab_storeVar (t : TypeId) (a : Addr) (v : Value) : Tab ⟨T, f⟩ ⟨T, f'⟩ (storeVar t a v) := by
  refine (tab_sizeOf t).bind fun b => ?_
  split
  · exact Tab.bind (tab_stuck _) fun _ => tab_storeCells _ _ _
  · exact tab_storeCells _ _ _

theorem tab_runtimePanic_error {α : Type} (s : String) : Tab ⟨T, f⟩ ⟨T, f'⟩ (runtimePanic (.error s) : Sem α) := tab_program rfl trivial
theorem tab_runtimePanic_nil {α : Type} : Tab ⟨T, f⟩ ⟨T, f'⟩ (runtimePanic .nilDeref : Sem α) := tab_program rfl trivial
theorem tab_boundsPanic {α : Type} (k : IntKind) (x y : Int) (c : BoundsCode) : Tab ⟨T, f⟩ ⟨T, f'⟩ (boundsPanic k x y c : Sem α) := by
  have h : ∀ s, Tab ⟨T, f⟩ ⟨T, f'⟩ (runtimePanic (.bounds (IntKind.i64.wrap x) y s c) : Sem α) := fun s => tab_program rfl trivial
  unfold boundsPanic
  dsimp only
  split
  · exact fun _ => h _
  · exact h _

theorem tab_asIntOf (v : Value) : Tab ⟨T, f⟩ ⟨T, f'⟩ (asIntOf v) := by unfold asIntOf; split <;> trivial
theorem tab_asInt (v : Value) : Tab ⟨T, f⟩ ⟨T, f'⟩ (asInt v) := (tab_asIntOf v).bind fun _ => trivial
theorem tab_asBool (v : Value) : Tab ⟨T, f⟩ ⟨T, f'⟩ (asBool v) := by unfold asBool; split <;> trivial
theorem tab_sureAddr (v : Value) : Tab ⟨T, f⟩ ⟨T, f'⟩ (Instr.sureAddr v) := by unfold Instr.sureAddr; split <;> trivial

theorem tab_loadAt (t : TypeId) (v : Value) : Tab ⟨T, f⟩ ⟨T, f'⟩ (Instr.loadAt t v) := (tab_sureAddr v).bind fun _ => tab_loadVar _ _
theorem tab_storeAt (t : TypeId) (a v : Value) : Tab ⟨T, f⟩ ⟨T, f'⟩ (Instr.storeAt t a v) := (tab_sureAddr a).bind fun _ => tab_storeVar _ _ _

theorem tab_indexAt (t : TypeId) (x i : Value) : Tab ⟨T, f⟩ ⟨T, f'⟩ (Instr.indexAt t x i) := by
  refine (tab_asIntOf i).bind fun ki => ?_
  obtain ⟨k, i⟩ := ki
  refine (tab_underlying t).bind fun d => ?_
  have J : ∀ (base : Option Addr) (len : Nat) (elem : TypeId), Tab ⟨T, f⟩ ⟨T, f'⟩ (do
        let d ← underlying t
        match base with
        | some a =>
          if 0 ≤ i ∧ i < (len : Int) then do
            let s ← Go.sizeOf elem
            pure (Value.pointer (some (a.add (i.toNat * s))))
          else if (decide (len ≤ 1) && match d with | .array _ _ => true | _ => false) = true then
            unsupported (Unsupported.noEntry "op/indexAddr.an index out of range at an array of length 0 or 1 (ledger 616)")
          else boundsPanic k i len .index
        | none => boundsPanic k i 0 .index) := by
    intro base len elem
    refine (tab_underlying t).bind fun d => ?_
    generalize (decide (len ≤ 1) && match d with | .array _ _ => true | _ => false) = tiny
    split
    · split
      · exact (tab_sizeOf _).bind fun _ => trivial
      · split
        · trivial
        · exact tab_boundsPanic _ _ _ _
    · exact tab_boundsPanic _ _ _ _
  dsimp only
  split
  · exact (tab_sureAddr _).bind fun _ => Tab.bind (tab_pure _) fun r => J r.1 r.2.1 r.2.2
  · exact Tab.bind (tab_pure _) fun r => J r.1 r.2.1 r.2.2
  · exact Tab.bind (tab_stuck _) fun r => J r.1 r.2.1 r.2.2

theorem tab_part (t : TypeId) (cs : Array Value) (n : Nat) : Tab ⟨T, f⟩ ⟨T, f'⟩ (part t cs n) := by
  refine (tab_isAgg t).bind fun b => ?_
  split
  · exact (tab_sizeOf t).bind fun _ => trivial
  · split <;> trivial

theorem tab_index (t : TypeId) (x i : Value) : Tab ⟨T, f⟩ ⟨T, f'⟩ (Instr.index t x i) := by
  refine (tab_asIntOf i).bind fun ki => ?_
  obtain ⟨k, i⟩ := ki
  refine (tab_underlying t).bind fun d => ?_
  split
  · split
    · exact (tab_sizeOf _).bind fun _ => tab_part _ _ _
    · exact tab_boundsPanic _ _ _ _
  · split
    · trivial
    · exact tab_boundsPanic _ _ _ _
  · trivial

theorem tab_extract (v : Value) (n : Nat) : Tab ⟨T, f⟩ ⟨T, f'⟩ (Instr.extract v n) := by
  unfold Instr.extract
  split
  · split <;> trivial
  · trivial

theorem tab_alloc (t : TypeId) : Tab ⟨T, f⟩ ⟨T, f'⟩ (Instr.alloc t true (.tuple #[])) := by
  refine (tab_zeroValue t).bind fun z => ?_
  exact Tab.bind (Tab.bind (tab_newObj _) fun _ => trivial) fun _ => trivial

theorem tab_len (ts : Array TypeId) (t : TypeId) (args : Array Value) : Tab ⟨T, f⟩ ⟨T, f'⟩ (Builtin.len_ ts t args) := by
  unfold Builtin.len_
  split
  · refine (tab_underlying _).bind fun d => ?_
    split <;> first | trivial | skip
    · refine (tab_underlying _).bind fun d => ?_
      split <;> trivial
    · refine (tab_getObj _).bind fun d => ?_
      split <;> trivial
    · refine (tab_getObj _).bind fun d => ?_
      split <;> trivial
  · trivial

theorem tab_noView (a : Addr) : Tab ⟨T, f⟩ ⟨T, f'⟩ (noView a) := by
  refine Tab.bind ?_ fun b => by split <;> trivial
  refine (tab_shape _).bind fun s => ?_
  split
  · trivial
  · refine (tab_getObj _).bind fun d => ?_
    split <;> trivial

theorem tab_viewAt (r : Nat) : Tab ⟨T, f⟩ ⟨T, f'⟩ (viewAt r) := by
  refine (tab_shape _).bind fun s => ?_
  split
  · trivial
  · refine (tab_getObj _).bind fun d => ?_
    split <;> trivial

theorem tab_numberAt (r : Nat) : Tab ⟨T, f⟩ ⟨T, f'⟩ (numberAt r) := by
  refine (tab_shape _).bind fun s => ?_
  split
  · trivial
  · refine (tab_getObj _).bind fun d => ?_
    split <;> trivial

theorem tab_behindNumber (a : Addr) : Tab ⟨T, f⟩ ⟨T, f'⟩ (behindNumber a) := (tab_numberAt _).bind fun _ => trivial

theorem tab_byteOf (a : Addr) : Tab ⟨T, f⟩ ⟨T, f'⟩ (byteOf a) := by
  unfold byteOf
  split
  · trivial
  · refine tab_program ?_ ?_
    · simp only [byteOfCell_same T f f']; rfl
    · refine (tab_noView a).bind fun _ => ?_
      refine (tab_shape _).bind fun s => ?_
      split
      · dsimp only
        split
        · trivial
        · split <;> trivial
      · trivial

theorem tab_twoPlaces (a b : Addr) : Tab ⟨T, f⟩ ⟨T, f'⟩ (Op.twoPlaces a b) := by
  refine tab_program rfl ?_
  split
  · exact Tab.bind (tab_unsupported _) fun _ => (tab_byteOf a).bind fun _ => (tab_byteOf b).bind fun _ => trivial
  · exact (tab_byteOf a).bind fun _ => (tab_byteOf b).bind fun _ => trivial

theorem tab_addrSub (k : IntKind) (a b : Addr) : Tab ⟨T, f⟩ ⟨T, f'⟩ (Op.addrSub k a b) := (tab_twoPlaces a b).bind fun _ => trivial
theorem tab_addrCmp (o : BinOp) (a b : Addr) : Tab ⟨T, f⟩ ⟨T, f'⟩ (Op.addrCmp o a b) := (tab_twoPlaces a b).bind fun _ => by dsimp only; split <;> trivial
theorem tab_addrMod (k : IntKind) (a : Addr) (n : Int) : Tab ⟨T, f⟩ ⟨T, f'⟩ (Op.addrMod k a n) := by
  refine (tab_shape _).bind fun s => ?_
  split
  · refine (tab_typeInfo _).bind fun i => ?_
    dsimp only
    split
    · exact Tab.bind (tab_unsupported _) fun _ => (tab_byteOf a).bind fun _ => trivial
    · exact (tab_byteOf a).bind fun _ => trivial
  · trivial

theorem cellAtBytes_same (e : TypeId) (n off : Nat) (b : Int) : cellAtBytes ⟨T, f⟩ (Program.depth ⟨T, f⟩) e n off b = cellAtBytes ⟨T, f'⟩ (Program.depth ⟨T, f'⟩) e n off b := by
  simp only [cellAtBytes, byteOfCell_same T f f', cellOfByte_same T f f']; rfl

theorem tab_unsafeAdd (t : TypeId) (x y : Value) : Tab ⟨T, f⟩ ⟨T, f'⟩ (Builtin.unsafeAdd_ #[] t #[x, y]) := by
  have P1 : ∀ (a : Addr) (n : Int), Tab ⟨T, f⟩ ⟨T, f'⟩ (do
      let some (e, cells) ← shape a.block | unsupported (.unsafePointer "Add")
      let p ← program
      match cellAtBytes p p.depth e (cells / p.cellsOf e) a.off n with
      | some off => pure (Value.pointer (some { a with off }))
      | none => unsupported (.unsafePointer "Add")) := by
    intro a n
    refine (tab_shape _).bind fun s => ?_
    split
    · refine tab_program ?_ ?_
      · show (match cellAtBytes ⟨T, f⟩ (Program.depth ⟨T, f⟩) _ _ a.off n with | some off => _ | none => _) = _
        rw [cellAtBytes_same (f := f) (f' := f')]; rfl
      · split <;> trivial
    · trivial
  cases x <;> try exact trivial
  next ptr =>
    show Tab _ _ (asInt y >>= _)
    refine (tab_asInt _).bind fun n => ?_
    dsimp only
    split
    · split
      · refine (tab_viewAt _).bind fun b => ?_
        split <;> trivial
      · trivial
    · split
      · exact Tab.bind (tab_unsupported _) fun _ => by
          split
          · exact P1 _ _
          · trivial
      · split
        · exact P1 _ _
        · trivial

theorem tab_movedNumber (t : TypeId) (x y : Value) : Tab ⟨T, f⟩ ⟨T, f'⟩ (movedNumber t x y) := by
  have J : Tab ⟨T, f⟩ ⟨T, f'⟩ (do
      let .pointer (some n) := x | Builtin.unsafeAdd_ #[] t #[x, y]
      let (a, lost) ← behindNumber n
      match ← Builtin.unsafeAdd_ #[] t #[.pointer (some a), y] with
      | .pointer (some b) => asNumber b lost
      | v => pure v) := by
    split
    · refine (tab_behindNumber _).bind fun r => ?_
      refine (tab_unsafeAdd _ _ _).bind fun v => ?_
      split
      · exact Tab.bind (tab_newObj _) fun _ => trivial
      · trivial
    · exact tab_unsafeAdd _ _ _
  refine (tab_underlying t).bind fun d => ?_
  dsimp only
  split
  · exact Tab.bind (tab_unsupported _) fun _ => J
  · exact J

theorem tab_movedPointer (t : TypeId) (x y : Value) : Tab ⟨T, f⟩ ⟨T, f'⟩ (movedPointer t x y) := by
  unfold movedPointer
  split
  · refine (tab_numberAt _).bind fun d => ?_
    split
    · exact Tab.bind (tab_unsupported _) fun _ => tab_unsafeAdd _ _ _
    · exact tab_unsafeAdd _ _ _
  · exact tab_unsafeAdd _ _ _

theorem tab_floatArith (op : BinOp) (k : FloatKind) (x y : Nat) : Tab ⟨T, f⟩ ⟨T, f'⟩ (Op.floatArith op k x y) := by
  have J : ∀ r : Option Nat, Tab ⟨T, f⟩ ⟨T, f'⟩ (match r with | some r => pure (Value.float k r) | none => do pure (Value.float k (← choose (.nanBits k x y)))) := by
    intro r
    split
    · trivial
    · exact fun _ => trivial
  cases op <;> first | exact J _ | exact trivial

theorem tab_floatCmp (op : BinOp) (k : FloatKind) (x y : Nat) : Tab ⟨T, f⟩ ⟨T, f'⟩ (Op.floatCmp op k x y) := by
  cases op <;> exact trivial

theorem tab_floatToFloat (k : FloatKind) (x : Nat) (k' : FloatKind) : Tab ⟨T, f⟩ ⟨T, f'⟩ (Conv.floatToFloat k x k') := by
  unfold Conv.floatToFloat
  split
  · trivial
  · split
    · exact fun _ => trivial
    · trivial
    · dsimp only
      split
      · exact fun _ => trivial
      · trivial

theorem tab_arith (op : BinOp) (k : FloatKind) (x y : Nat) : Tab ⟨T, f⟩ ⟨T, f'⟩ (Op.Complex.arith op k x y) := (tab_floatArith op k x y).bind fun v => by split <;> trivial
theorem tab_cmp (op : BinOp) (k : FloatKind) (x y : Nat) : Tab ⟨T, f⟩ ⟨T, f'⟩ (Op.Complex.cmp op k x y) := (tab_floatCmp op k x y).bind fun v => tab_asBool v
theorem tab_conv (k : FloatKind) (x : Nat) (k' : FloatKind) : Tab ⟨T, f⟩ ⟨T, f'⟩ (Op.Complex.conv k x k') := by
  unfold Op.Complex.conv
  split
  · trivial
  · exact (tab_floatToFloat _ _ _).bind fun v => by split <;> trivial

theorem tab_product (a b c d : Nat) : Tab ⟨T, f⟩ ⟨T, f'⟩ (Op.Complex.product a b c d) :=
  (tab_arith _ _ _ _).bind fun _ => (tab_arith _ _ _ _).bind fun _ => (tab_arith _ _ _ _).bind fun _ => (tab_arith _ _ _ _).bind fun _ => (tab_arith _ _ _ _).bind fun _ => (tab_arith _ _ _ _).bind fun _ => trivial

theorem tab_corrected (s a b c d : Nat) : Tab ⟨T, f⟩ ⟨T, f'⟩ (Op.Complex.corrected s a b c d) :=
  (tab_arith _ _ _ _).bind fun _ => (tab_arith _ _ _ _).bind fun _ => (tab_arith _ _ _ _).bind fun _ => (tab_arith _ _ _ _).bind fun _ => (tab_arith _ _ _ _).bind fun _ => (tab_arith _ _ _ _).bind fun _ => (tab_arith _ _ _ _).bind fun _ => (tab_arith _ _ _ _).bind fun _ => trivial

theorem tab_quotient (a b c d : Nat) : Tab ⟨T, f⟩ ⟨T, f'⟩ (Op.Complex.quotient a b c d) := by
  have E : ∀ (e f₁ : Nat), Tab ⟨T, f⟩ ⟨T, f'⟩ (do
      let zero := (← Op.Complex.cmp .eql .f64 c 0) && (← Op.Complex.cmp .eql .f64 d 0)
      if !(Op.Complex.isNaN e && Op.Complex.isNaN f₁) then pure (e, f₁)
      else if zero && (!Op.Complex.isNaN a || !Op.Complex.isNaN b) then
        pure (← Op.Complex.mul (Op.Complex.copysign Op.Complex.inf c) a, ← Op.Complex.mul (Op.Complex.copysign Op.Complex.inf c) b)
      else if (Op.Complex.isInf a || Op.Complex.isInf b) && Op.Complex.isFinite c && Op.Complex.isFinite d then
        Op.Complex.corrected Op.Complex.inf (Op.Complex.inf2one a) (Op.Complex.inf2one b) c d
      else if (Op.Complex.isInf c || Op.Complex.isInf d) && Op.Complex.isFinite a && Op.Complex.isFinite b then
        Op.Complex.corrected 0 a b (Op.Complex.inf2one c) (Op.Complex.inf2one d)
      else pure (e, f₁)) := by
    intro e f₁
    refine (tab_cmp _ _ _ _).bind fun _ => (tab_cmp _ _ _ _).bind fun _ => ?_
    dsimp only
    split
    · trivial
    · split
      · exact (tab_arith _ _ _ _).bind fun _ => (tab_arith _ _ _ _).bind fun _ => trivial
      · split
        · exact tab_corrected _ _ _ _ _
        · split
          · exact tab_corrected _ _ _ _ _
          · trivial
  unfold Op.Complex.quotient
  refine (tab_cmp _ _ _ _).bind fun g => ?_
  dsimp only
  split
  · refine (tab_arith _ _ _ _).bind fun _ => (tab_arith _ _ _ _).bind fun _ => (tab_arith _ _ _ _).bind fun _ => (tab_arith _ _ _ _).bind fun _ => (tab_arith _ _ _ _).bind fun _ => (tab_arith _ _ _ _).bind fun _ => (tab_arith _ _ _ _).bind fun _ => (tab_arith _ _ _ _).bind fun _ => (tab_arith _ _ _ _).bind fun _ => ?_
    exact Tab.bind (tab_pure _) fun r => E r.1 r.2
  · refine (tab_arith _ _ _ _).bind fun _ => (tab_arith _ _ _ _).bind fun _ => (tab_arith _ _ _ _).bind fun _ => (tab_arith _ _ _ _).bind fun _ => (tab_arith _ _ _ _).bind fun _ => (tab_arith _ _ _ _).bind fun _ => (tab_arith _ _ _ _).bind fun _ => (tab_arith _ _ _ _).bind fun _ => (tab_arith _ _ _ _).bind fun _ => ?_
    exact Tab.bind (tab_pure _) fun r => E r.1 r.2

theorem tab_complexOp (op : BinOp) (k : FloatKind) (a b c d : Nat) : Tab ⟨T, f⟩ ⟨T, f'⟩ (Op.complexOp op k a b c d) := by
  have M : ∀ op' : BinOp, Tab ⟨T, f⟩ ⟨T, f'⟩ (do
      let (a, b, c, d) := (← Op.Complex.conv k a .f64, ← Op.Complex.conv k b .f64, ← Op.Complex.conv k c .f64, ← Op.Complex.conv k d .f64)
      let (e, f) ← if op' == .mul then Op.Complex.product a b c d else Op.Complex.quotient a b c d
      pure (Value.complex k (← Op.Complex.conv .f64 e k) (← Op.Complex.conv .f64 f k))) := by
    intro op'
    refine (tab_conv _ _ _).bind fun _ => (tab_conv _ _ _).bind fun _ => (tab_conv _ _ _).bind fun _ => (tab_conv _ _ _).bind fun _ => ?_
    dsimp only
    split
    · exact (tab_product _ _ _ _).bind fun _ => (tab_conv _ _ _).bind fun _ => (tab_conv _ _ _).bind fun _ => trivial
    · exact (tab_quotient _ _ _ _).bind fun _ => (tab_conv _ _ _).bind fun _ => (tab_conv _ _ _).bind fun _ => trivial
  cases op <;> first | exact trivial | exact M _ | exact (tab_arith _ _ _ _).bind fun _ => (tab_arith _ _ _ _).bind fun _ => trivial | exact (tab_cmp _ _ _ _).bind fun _ => (tab_cmp _ _ _ _).bind fun _ => trivial

theorem tab_stringOp (op : BinOp) (x y : ByteArray) : Tab ⟨T, f⟩ ⟨T, f'⟩ (Op.stringOp op x y) := by
  unfold Op.stringOp
  cases op <;> first | exact trivial | (dsimp only; split <;> exact trivial)

theorem tab_intArith (op : BinOp) (k : IntKind) (x y : Int) : Tab ⟨T, f⟩ ⟨T, f'⟩ (Op.intArith op k x y) := by cases op <;> exact trivial
theorem tab_intBits (op : BinOp) (k : IntKind) (x y : Int) : Tab ⟨T, f⟩ ⟨T, f'⟩ (Op.intBits op k x y) := by cases op <;> exact trivial
theorem tab_intCmp (op : BinOp) (x y : Int) : Tab ⟨T, f⟩ ⟨T, f'⟩ (Op.intCmp op x y) := by cases op <;> exact trivial
theorem tab_intDiv (op : BinOp) (k : IntKind) (x y : Int) : Tab ⟨T, f⟩ ⟨T, f'⟩ (Op.intDiv op k x y) := by
  unfold Op.intDiv
  split
  · exact tab_runtimePanic_error _
  · cases op <;> exact trivial
theorem tab_shift (op : BinOp) (k k' : IntKind) (x y : Int) : Tab ⟨T, f⟩ ⟨T, f'⟩ (Op.shift op k x k' y) := by
  unfold Op.shift
  split
  · exact tab_runtimePanic_error _
  · cases op <;> exact trivial

theorem tab_binOp (op : BinOp) (t : TypeId) (x y : Value) (hop : op ≠ .eql) (hop' : op ≠ .neq) : Tab ⟨T, f⟩ ⟨T, f'⟩ (binOp op t x y) := by
  unfold binOp
  split
  all_goals first
    | exact tab_shift _ _ _ _ _
    | exact tab_stringOp _ _ _
    | exact absurd rfl hop
    | exact absurd rfl hop'
    | exact trivial
    | exact tab_movedNumber _ _ _
    | exact (tab_behindNumber _).bind fun _ => (tab_behindNumber _).bind fun _ => tab_addrSub _ _ _
    | exact (tab_behindNumber _).bind fun _ => (tab_behindNumber _).bind fun _ => tab_addrCmp _ _ _
    | exact (tab_behindNumber _).bind fun _ => tab_addrMod _ _ _
    | skip
  · split
    · trivial
    · split
      · exact tab_intArith _ _ _ _
      · exact tab_intArith _ _ _ _
      · exact tab_intArith _ _ _ _
      · exact tab_intDiv _ _ _ _
      · exact tab_intDiv _ _ _ _
      · exact tab_intBits _ _ _ _
      · exact tab_intBits _ _ _ _
      · exact tab_intBits _ _ _ _
      · exact tab_intBits _ _ _ _
      · exact tab_intCmp _ _ _
  · split
    · trivial
    · split
      · exact tab_floatArith _ _ _ _
      · exact tab_floatArith _ _ _ _
      · exact tab_floatArith _ _ _ _
      · exact tab_floatArith _ _ _ _
      · exact tab_floatCmp _ _ _ _
  · split
    · trivial
    · exact tab_complexOp _ _ _ _ _ _
  · refine (tab_underlying _).bind fun d => ?_
    split
    · exact tab_movedPointer _ _ _
    · exact tab_movedNumber _ _ _

theorem tab_underlying_bind {α : Type} {t : TypeId} {d : TypeDesc} {k : TypeDesc → Sem α} (h : Program.underlying ⟨T, f⟩ t = some d) (hk : Tab ⟨T, f⟩ ⟨T, f'⟩ (k d)) : Tab ⟨T, f⟩ ⟨T, f'⟩ (underlying t >>= k) := by
  have e : (underlying t >>= k) = program >>= fun p => (match p.underlying t with | some d => (pure d : Sem TypeDesc) | none => stuck "no such type") >>= k := rfl
  rw [e]
  refine tab_program rfl ?_
  rw [h]
  exact hk

theorem tab_convert {src dst : TypeId} {k k' : IntKind} (x : Value) (h1 : Program.underlying ⟨T, f⟩ src = some (.int k)) (h2 : Program.underlying ⟨T, f⟩ dst = some (.int k')) : Tab ⟨T, f⟩ ⟨T, f'⟩ (convert src dst x) := by
  refine tab_underlying_bind h1 (tab_underlying_bind h2 ?_)
  cases x <;> first | exact trivial | skip
  · unfold Conv.floatToInt
    dsimp only
    split
    · split
      · trivial
      · exact fun _ => trivial
    · exact fun _ => trivial
  · next a => cases a <;> exact trivial

theorem tab_eql {t : TypeId} {k : IntKind} (x y : Value) (h : Program.underlying ⟨T, f⟩ t = some (.int k)) : Tab ⟨T, f⟩ ⟨T, f'⟩ (Op.equal t x y) := by
  show Tab _ _ (Op.equalIn (9999 + 1) t x y)
  rw [Op.equalIn]
  refine tab_underlying_bind h ?_
  split <;> first | exact trivial | contradiction | skip
  · split <;> trivial
  · refine (tab_behindNumber _).bind fun a => (tab_behindNumber _).bind fun b => ?_
    refine tab_program rfl ?_
    split
    · exact (tab_byteOf _).bind fun _ => (tab_byteOf _).bind fun _ => trivial
    · refine (tab_typeInfo _).bind fun i => ?_
      split
      · split <;> trivial
      · trivial

theorem eqGuardType_same : ∀ d t, Program.eqGuardType ⟨T, f⟩ d t = Program.eqGuardType ⟨T, f'⟩ d t := by
  intro d
  induction d with
  | zero => intro t; rfl
  | succ d ih => intro t; simp only [Program.eqGuardType, ih]; rfl

theorem tab_eqGuard_eql {t : TypeId} {k : IntKind} (op : BinOp) (hop : op = .eql ∨ op = .neq) (x y : Operand) (a b : Value) (h : Program.underlying ⟨T, f⟩ t = some (.int k)) : Tab ⟨T, f⟩ ⟨T, f'⟩ (eqGuard op t x y a b) := by
  have G : ∀ u v, Tab ⟨T, f⟩ ⟨T, f'⟩ (Op.eqGuardIn Op.maxDepth t u v) := fun u v => by
    show Tab _ _ (Op.eqGuardIn (9999 + 1) t u v)
    rw [Op.eqGuardIn]
    refine tab_underlying_bind h ?_
    exact trivial
  unfold eqGuard
  rw [if_neg (by rcases hop with rfl | rfl <;> decide)]
  clear hop
  split
  · generalize (_ || _ : Bool) = c
    split
    · trivial
    · exact (G _ _).bind fun b => by split <;> trivial
  · refine tab_program ?_ (tab_program ?_ ?_)
    · simp only [eqGuardType_same (f := f) (f' := f')]
    · simp only [eqGuardType_same (f := f) (f' := f')]; rfl
    · split
      · trivial
      · exact (G _ _).bind fun b => by split <;> trivial
  · trivial

theorem tab_eqGuard_other (op : BinOp) (t : TypeId) (x y : Operand) (a b : Value) (h : op ≠ .eql) (h' : op ≠ .neq) : Tab ⟨T, f⟩ ⟨T, f'⟩ (eqGuard op t x y a b) := by
  cases op <;> first | exact absurd rfl h | exact absurd rfl h' | exact trivial

theorem tab_followBlind : ∀ l t x, Tab ⟨T, f⟩ ⟨T, f'⟩ (followBlind l t x) := by
  intro l
  induction l with
  | nil => intro t x; trivial
  | cons s l ih =>
    intro t x
    rw [followBlind]
    refine (tab_underlying _).bind fun d => ?_
    split
    · split
      · split
        all_goals first | exact trivial | exact ih _ _ | exact (tab_part _ _ _).bind fun _ => ih _ _
      · trivial
    · trivial

theorem tab_nilAhead (name : String) : ∀ n t v, Tab ⟨T, f⟩ ⟨T, f'⟩ (nilAhead n t v name) := by
  intro n
  induction n with
  | zero => intro t v; trivial
  | succ n ih =>
    intro t v
    rw [nilAhead]
    refine (tab_typeInfo _).bind fun i => ?_
    split
    · refine (tab_followBlind _ _ _).bind fun r => ?_
      split
      · trivial
      · split
        all_goals first | exact trivial | exact ih _ _ | skip
        refine (tab_underlying _).bind fun d => ?_
        split <;> trivial
    · trivial

theorem tab_unary (op : UnOp) (x : Value) : Tab ⟨T, f⟩ ⟨T, f'⟩ (Op.unary op x) := by
  unfold Op.unary
  split <;> exact trivial

def isInt : Option TypeDesc → Bool
  | some (.int _) => true
  | _ => false

theorem isInt_out {d : Option TypeDesc} (h : isInt d = true) : ∃ k, d = some (.int k) := by
  unfold isInt at h
  split at h
  · exact ⟨_, rfl⟩
  · exact absurd h (by decide)

/-- The operations that ask for nothing but the tables. -/
def okOp (und : TypeId → Option TypeDesc) : Op → Bool
  | .move _ | .assign _ | .pick .. | .alloc _ | .load .. | .store .. | .nilCheck _ | .unOp .. | .indexAddr .. | .index .. | .extract .. => true
  | .binOp op t _ _ _ => match op with
    | .neq | .eql => isInt (und t)
    | _ => true
  | .convert s d _ => isInt (und s) && isInt (und d)
  | .call { callee := .builtin .len, .. } => true
  | _ => false

theorem tab_value {s : Sem Value} (h : Tab ⟨T, f⟩ ⟨T, f'⟩ s) : Tab ⟨T, f⟩ ⟨T, f'⟩ (do pure (Next.value (← s)) : Sem Next) := h.bind fun _ => trivial
theorem tab_skip {s : Sem Unit} (h : Tab ⟨T, f⟩ ⟨T, f'⟩ s) : Tab ⟨T, f⟩ ⟨T, f'⟩ (do s; pure Next.skip : Sem Next) := h.bind fun _ => trivial

theorem tab_execOp (ρ : Operand → Value) (o : Oper) (h : okOp (Program.underlying ⟨T, f⟩) o.op = true) : Tab ⟨T, f⟩ ⟨T, f'⟩ (execOp ρ o) := by
  obtain ⟨dst, op, type, pos, after, guard⟩ := o
  cases op <;> first | exact trivial | exact absurd h Bool.false_ne_true | skip
  case pick c a b => exact (tab_asBool _).bind fun _ => trivial
  case alloc e => exact tab_value (tab_alloc _)
  case load t a => exact tab_value (tab_loadAt _ _)
  case store t a x => exact tab_skip (tab_storeAt _ _ _)
  case nilCheck x =>
    unfold execOp
    dsimp only
    split
    · exact tab_runtimePanic_nil
    · exact tab_runtimePanic_nil
    · exact tab_runtimePanic_nil
    · split
      · exact tab_runtimePanic_nil
      · refine tab_program rfl ?_
        refine (tab_nilAhead _ _ _ _).bind fun r => ?_
        split
        · exact Tab.bind (tab_unsupported _) fun _ => trivial
        · trivial
      · trivial
    · trivial
  case unOp op t x => exact tab_value (tab_unary _ _)
  case indexAddr t x i => exact tab_value (tab_indexAt _ _ _)
  case index t x i => exact tab_value (tab_index _ _ _)
  case extract t i => exact tab_value (tab_extract _ _)
  case convert s d x =>
    simp only [okOp, Bool.and_eq_true] at h
    obtain ⟨k, h1⟩ := isInt_out h.1
    obtain ⟨k', h2⟩ := isInt_out h.2
    exact tab_value (tab_convert _ h1 h2)
  case binOp op t x y yt =>
    unfold execOp
    dsimp only
    by_cases h1 : op = .eql
    · subst h1
      obtain ⟨k, h2⟩ := isInt_out h
      refine tab_value ((tab_eqGuard_eql _ (Or.inl rfl) _ _ _ _ h2).bind fun _ => ?_)
      unfold binOp
      split
      all_goals first | exact trivial | contradiction | exact (tab_eql _ _ h2).bind fun _ => trivial | exact tab_stringOp _ _ _ | skip
      · split
        · trivial
        · exact tab_intCmp _ _ _
      · split
        · trivial
        · exact tab_floatCmp _ _ _ _
      · split
        · trivial
        · exact tab_complexOp _ _ _ _ _ _
    · by_cases h3 : op = .neq
      · subst h3
        obtain ⟨k, h2⟩ := isInt_out h
        refine tab_value ((tab_eqGuard_eql _ (Or.inr rfl) _ _ _ _ h2).bind fun _ => ?_)
        unfold binOp
        split
        all_goals first | exact trivial | contradiction | exact (tab_eql _ _ h2).bind fun _ => trivial | exact tab_stringOp _ _ _ | skip
        · split
          · trivial
          · exact tab_intCmp _ _ _
        · split
          · trivial
          · exact tab_floatCmp _ _ _ _
        · split
          · trivial
          · exact tab_complexOp _ _ _ _ _ _
      · exact tab_value ((tab_eqGuard_other _ _ _ _ _ _ h1 h3).bind fun _ => tab_binOp _ _ _ _ h1 h3)
  case call c =>
    obtain ⟨callee, args, ats⟩ := c
    cases callee <;> first | exact absurd h Bool.false_ne_true | skip
    next b =>
      cases b <;> first | exact absurd h Bool.false_ne_true | skip
      exact tab_value (tab_len _ _ _)

end ops
end Go.Proofs.YthocnlalahknjaaGreat
namespace Go.Proofs.YthocnlalahknjaaGreat
open Go

/-- The operand is no slot that may hold the function value. -/
def okVar (F : Nat → Bool) : Operand → Bool
  | .tmp t => !F t
  | _ => true

def okArg (F G : Nat → Bool) (a : Operand) (i : Nat) : Bool :=
  match a with
  | .tmp x => F x == G i
  | _ => !G i

def okArgs (F G : Nat → Bool) : List Operand → Nat → Bool
  | [], _ => true
  | a :: l, i => okArg F G a i && okArgs F G l (i + 1)

def tameOp (und : TypeId → Option TypeDesc) (S : Nat → Bool) (Fs : Nat → Nat → Bool) (F : Nat → Bool) (o : Oper) : Bool :=
  match o.op with
  | .move (.tmp x) | .assign (.tmp x) => match o.dst with
    | some d => F d == F x
    | none => true
  | .call { callee := .value (.tmp x), args := a, .. } => F x && a.size == 2 && a.all (okVar F) && (match o.dst with | some d => !F d | none => true)
  | .call { callee := .value (.func g), args := a, .. } => S g && okArgs F (Fs g) a.toList 0 && (match o.dst with | some d => !F d | none => true)
  | op => okOp und op && op.operands.all (okVar F) && (match o.dst with | some d => !F d | none => true)

def tameCode (und : TypeId → Option TypeDesc) (S : Nat → Bool) (Fs : Nat → Nat → Bool) (F : Nat → Bool) : Code → Bool
  | .skip | .ret | .exit _ => true
  | .region _ ops _ => ops.all (tameOp und S Fs F)
  | .seq a b => tameCode und S Fs F a && tameCode und S Fs F b
  | .cond c a b => okVar F c && tameCode und S Fs F a && tameCode und S Fs F b
  | .block _ b | .loop b => tameCode und S Fs F b
  | _ => false

def tameItem (und : TypeId → Option TypeDesc) (S : Nat → Bool) (Fs : Nat → Nat → Bool) (F : Nat → Bool) : Item → Bool
  | .code c | .inLoop c => tameCode und S Fs F c
  | .inBlock _ => true
  | .inRegion ops _ => ops.all (tameOp und S Fs F)
  | _ => false

/-- The slots of both runs. -/
def RT (F : Nat → Bool) (F2 F1 : Value) (t2 t1 : Array Value) : Prop :=
  t1.size = t2.size ∧ ∀ i, (F i = false → t1[i]? = t2[i]?) ∧ (F i = true → (t1[i]? = t2[i]? ∧ ∀ v, t2[i]? = some v → v = undef) ∨ (t2[i]? = some F2 ∧ t1[i]? = some F1))

def fram (fn : FuncId) (t : Array Value) (todo : List Item) (m : FrameMode) : Frame :=
  { fn := fn, tmps := t, todo := todo, defers := [], mode := m, kind := .normal, roundOf := none }

variable {F : Nat → Bool} {F2 F1 : Value} {t2 t1 : Array Value}

theorem RT.set (h : RT F F2 F1 t2 t1) (d : Nat) (v2 v1 : Value) (h0 : F d = false → v1 = v2) (h1 : F d = true → (v1 = undef ∧ v2 = undef) ∨ (v2 = F2 ∧ v1 = F1)) :
    RT F F2 F1 (t2.setIfInBounds d v2) (t1.setIfInBounds d v1) := by
  refine ⟨by simp [h.1], fun i => ?_⟩
  have hi := h.2 i
  by_cases e : d = i
  · subst e
    by_cases hd : d < t2.size
    · have hd' : d < t1.size := by rw [h.1]; exact hd
      rw [Array.getElem?_setIfInBounds_self_of_lt hd, Array.getElem?_setIfInBounds_self_of_lt hd']
      refine ⟨fun hf => by rw [h0 hf], fun hf => ?_⟩
      rcases h1 hf with ⟨ha, hb⟩ | ⟨ha, hb⟩
      · exact Or.inl ⟨by rw [ha, hb], fun v hv => by cases hv; exact hb⟩
      · exact Or.inr ⟨by rw [ha], by rw [hb]⟩
    · have hd' : ¬ d < t1.size := by rw [h.1]; exact hd
      rw [Array.setIfInBounds_eq_of_size_le (by omega), Array.setIfInBounds_eq_of_size_le (by omega)]
      exact hi
  · rw [Array.getElem?_setIfInBounds_ne e, Array.getElem?_setIfInBounds_ne e]
    exact hi

theorem RT.eval (h : RT F F2 F1 t2 t1) (x : Operand) (hx : okVar F x = true) (fn : FuncId) (k : List Item) (m : FrameMode) : (fram fn t1 k m).eval x = (fram fn t2 k m).eval x := by
  cases x with
  | tmp t =>
    have hf : F t = false := by simpa [okVar] using hx
    show t1.getD t undef = t2.getD t undef
    rw [Array.getD_eq_getD_getElem?, Array.getD_eq_getD_getElem?, (h.2 t).1 hf]
  | _ => rfl

theorem RT.evalF (h : RT F F2 F1 t2 t1) (t : Nat) (hx : F t = true) (fn : FuncId) (k : List Item) (m : FrameMode) :
    ((fram fn t1 k m).eval (.tmp t) = undef ∧ (fram fn t2 k m).eval (.tmp t) = undef) ∨ ((fram fn t2 k m).eval (.tmp t) = F2 ∧ (fram fn t1 k m).eval (.tmp t) = F1) := by
  show (t1.getD t undef = undef ∧ t2.getD t undef = undef) ∨ (t2.getD t undef = F2 ∧ t1.getD t undef = F1)
  simp only [Array.getD_eq_getD_getElem?]
  rcases (h.2 t).2 hx with ⟨ha, hb⟩ | ⟨ha, hb⟩
  · left
    rw [ha]
    cases he : t2[t]? with
    | none => exact ⟨rfl, rfl⟩
    | some v => have := hb v he; subst this; exact ⟨rfl, rfl⟩
  · right
    rw [ha, hb]; exact ⟨rfl, rfl⟩

theorem RT.yielded (h : RT F F2 F1 t2 t1) (h2 : ∃ a b c, F2 = .func a b c) (h1 : ∃ a b c, F1 = .func a b c) (ops : Array Oper) : Go.yielded ops t1 = Go.yielded ops t2 := by
  obtain ⟨a, b, c, rfl⟩ := h2
  obtain ⟨a', b', c', rfl⟩ := h1
  funext j
  unfold Go.yielded
  cases hd : (ops[j]?).bind (·.dst) with
  | none => rfl
  | some d =>
    show (match t1[d]? with | some (.bool b) => some b | _ => none) = (match t2[d]? with | some (.bool b) => some b | _ => none)
    cases hf : F d with
    | false => rw [(h.2 d).1 hf]
    | true =>
      rcases (h.2 d).2 hf with ⟨ha, _⟩ | ⟨ha, hb⟩
      · rw [ha]
      · rw [ha, hb]

theorem finish_fram (fn : FuncId) (t : Array Value) (ops : Array Oper) (i : Nat) (r : List Nat) (k : List Item) (m : FrameMode) (v : Value) :
    (fram fn t (.inRegion ops (i :: r) :: k) m).finish v = fram fn (match (ops[i]?).bind (·.dst) with | some d => t.setIfInBounds d v | none => t) (.inRegion ops r :: k) m := rfl

theorem RT.finish (h : RT F F2 F1 t2 t1) (ops : Array Oper) (i : Nat) (v2 v1 : Value)
    (hd : ∀ d, (ops[i]?).bind (·.dst) = some d → (F d = false → v1 = v2) ∧ (F d = true → (v1 = undef ∧ v2 = undef) ∨ (v2 = F2 ∧ v1 = F1))) :
    RT F F2 F1 (match (ops[i]?).bind (·.dst) with | some d => t2.setIfInBounds d v2 | none => t2) (match (ops[i]?).bind (·.dst) with | some d => t1.setIfInBounds d v1 | none => t1) := by
  cases he : (ops[i]?).bind (·.dst) with
  | none => exact h
  | some d => exact h.set d v2 v1 (hd d he).1 (hd d he).2

theorem execOp_congr {und : TypeId → Option TypeDesc} {ρ1 ρ2 : Operand → Value} {o : Oper} (h : okOp und o.op = true) (hρ : ∀ x ∈ o.op.operands, ρ1 x = ρ2 x) : execOp ρ1 o = execOp ρ2 o := by
  obtain ⟨dst, op, type, pos, after, guard⟩ := o
  cases op <;> first | exact absurd h Bool.false_ne_true | skip
  case move x => simp only [execOp, hρ x (by simp [Op.operands])]
  case assign x => simp only [execOp, hρ x (by simp [Op.operands])]
  case pick c a b => simp only [execOp, hρ c (by simp [Op.operands]), hρ a (by simp [Op.operands]), hρ b (by simp [Op.operands])]
  case alloc e => rfl
  case load t a => simp only [execOp, hρ a (by simp [Op.operands])]
  case store t a x => simp only [execOp, hρ a (by simp [Op.operands]), hρ x (by simp [Op.operands])]
  case nilCheck x => simp only [execOp, hρ x (by simp [Op.operands])]
  case binOp op t x y yt => simp only [execOp, hρ x (by simp [Op.operands]), hρ y (by simp [Op.operands])]
  case unOp op t x => simp only [execOp, hρ x (by simp [Op.operands])]
  case convert s d x => simp only [execOp, hρ x (by simp [Op.operands])]
  case indexAddr t x i => simp only [execOp, hρ x (by simp [Op.operands]), hρ i (by simp [Op.operands])]
  case index t x i => simp only [execOp, hρ x (by simp [Op.operands]), hρ i (by simp [Op.operands])]
  case extract t i => simp only [execOp, hρ t (by simp [Op.operands])]
  case call c =>
    obtain ⟨callee, args, ats⟩ := c
    cases callee <;> first | exact absurd h Bool.false_ne_true | skip
    next b =>
      have e : args.map ρ1 = args.map ρ2 := Array.map_congr_left fun x hx => hρ x (by simp [Op.operands, Call.operands, hx])
      simp only [execOp, resolve, e]

end Go.Proofs.YthocnlalahknjaaGreat
namespace Go.Proofs.YthocnlalahknjaaGreat
open Go

def G (p : Program) (fr : Frame) (cs : List Frame) (w : World) : GStep := (stepG p true { frame := fr, callers := cs, status := .running, dying := none } w).bare
def goTo (fr : Frame) (cs : List Frame) (w : World) : GStep := .go { frame := fr, callers := cs, status := .running, dying := none } w

variable {p : Program} {fn : FuncId} {t : Array Value} {k : List Item} {cs : List Frame} {w : World}

theorem G_nil : G p (fram fn t [] .run) cs w = goTo (fram fn t [] .returning) cs w := by simp [G, goTo, stepG, stepG.exec, fram]
theorem G_ret : G p (fram fn t (.code .ret :: k) .run) cs w = goTo (fram fn t (.code .ret :: k) .returning) cs w := by simp [G, goTo, stepG, stepG.exec, fram]
theorem G_skip : G p (fram fn t (.code .skip :: k) .run) cs w = goTo (fram fn t k .run) cs w := by simp [G, goTo, stepG, stepG.exec, fram]
theorem G_inBlock (id : Nat) : G p (fram fn t (.inBlock id :: k) .run) cs w = goTo (fram fn t k .run) cs w := by simp [G, goTo, stepG, stepG.exec, fram]
theorem G_seq (a b : Code) : G p (fram fn t (.code (.seq a b) :: k) .run) cs w = goTo (fram fn t (.code a :: .code b :: k) .run) cs w := by simp [G, goTo, stepG, stepG.exec, fram]
theorem G_block (id : Nat) (b : Code) : G p (fram fn t (.code (.block id b) :: k) .run) cs w = goTo (fram fn t (.code b :: .inBlock id :: k) .run) cs w := by simp [G, goTo, stepG, stepG.exec, fram]
theorem G_loop (b : Code) : G p (fram fn t (.code (.loop b) :: k) .run) cs w = goTo (fram fn t (.code b :: .inLoop b :: k) .run) cs w := by simp [G, goTo, stepG, stepG.exec, fram]
theorem G_inLoop (b : Code) : G p (fram fn t (.inLoop b :: k) .run) cs w = goTo (fram fn t (.code b :: .inLoop b :: k) .run) cs w := by simp [G, goTo, stepG, stepG.exec, fram]
theorem G_cond (c : Operand) (a b : Code) (x : Bool) (h : (fram fn t (.code (.cond c a b) :: k) .run).eval c = .bool x) : G p (fram fn t (.code (.cond c a b) :: k) .run) cs w = goTo (fram fn t (.code (if x then a else b) :: k) .run) cs w := by
  simp only [fram] at h
  simp [G, goTo, stepG, stepG.exec, fram, h]
theorem G_cond_bad (c : Operand) (a b : Code) (h : ∀ x, (fram fn t (.code (.cond c a b) :: k) .run).eval c ≠ .bool x) : ∃ o, G p (fram fn t (.code (.cond c a b) :: k) .run) cs w = .ended o w := by
  simp only [fram] at h
  simp only [G, stepG, stepG.exec, fram]
  exact ⟨_, rfl⟩
theorem G_exit (id : Nat) {k' : List Item} (h : exitTo id k = some k') : G p (fram fn t (.code (.exit id) :: k) .run) cs w = goTo (fram fn t k' .run) cs w := by
  simp [G, goTo, stepG, stepG.exec, fram, h]
theorem G_exit_bad (id : Nat) (h : exitTo id k = none) : ∃ o, G p (fram fn t (.code (.exit id) :: k) .run) cs w = .ended o w := by
  simp [G, stepG, stepG.exec, fram, h]
theorem G_region (id : Nat) (ops : Array Oper) : G p (fram fn t (.code (.region id ops false) :: k) .run) cs w = goTo (fram fn t (.inRegion ops (List.range ops.size) :: k) .run) cs w := by simp [G, goTo, stepG, stepG.exec, fram]
theorem G_regionDraw (id : Nat) (ops : Array Oper) : G p (fram fn t (.code (.region id ops true) :: k) .run) cs w = goTo (fram fn t (.inRegion ops (Region.schedule (p.follows .mixedOrders) ops (w.tape w.drawn (.order fn id))) :: k) .run) cs { w with drawn := w.drawn + 1 } := by
  simp [G, goTo, stepG, stepG.exec, fram, choose, Sem.run, Question.forced, Question.cut]
theorem G_inRegion_nil (ops : Array Oper) : G p (fram fn t (.inRegion ops [] :: k) .run) cs w = goTo (fram fn t k .run) cs w := by simp [G, goTo, stepG, stepG.exec, fram]

theorem G_notWanted (ops : Array Oper) (i : Nat) (r : List Nat) (h : ((ops[i]?).map (Region.wanted · (yielded ops t))).getD false = false) :
    G p (fram fn t (.inRegion ops (i :: r) :: k) .run) cs w = goTo ((fram fn t (.inRegion ops (i :: r) :: k) .run).finish undef) cs w := by
  simp only [G, goTo, stepG, stepG.exec, fram, h]
  simp

theorem G_oper (ops : Array Oper) (i : Nat) (r : List Nat) (o : Oper) (ho : ops[i]? = some o) (h : Region.wanted o (yielded ops t) = true) :
    G p (fram fn t (.inRegion ops (i :: r) :: k) .run) cs w = (stepG.apply p true (fram fn t (.inRegion ops (i :: r) :: k) .run) cs none (execOp (fram fn t (.inRegion ops (i :: r) :: k) .run).eval o) w).bare := by
  have e : (Option.map (fun x => Region.wanted x (yielded ops t)) (some o)).getD false = true := h
  simp only [G, stepG, stepG.exec, fram, stepG.oper, Frame.oper?, ho]
  rw [if_pos e]

theorem apply_value {fr : Frame} {s : Sem Next} {v : Value} {w' : World} (h : s.run p w = .ok (.value v) w') : (stepG.apply p true fr cs none s w).bare = goTo (fr.finish v) cs w' := by
  simp [stepG.apply, Sem.runT_eq, h, goTo]
theorem apply_skip {fr : Frame} {s : Sem Next} {w' : World} (h : s.run p w = .ok .skip w') : (stepG.apply p true fr cs none s w).bare = goTo (fr.finish undef) cs w' := by
  simp [stepG.apply, Sem.runT_eq, h, goTo]
theorem apply_enter {ops : Array Oper} {i : Nat} {r : List Nat} {s : Sem Next} {g : FuncId} {args : Array Value} {w' : World} (h : s.run p w = .ok (.enter g args) w') :
    (stepG.apply p true (fram fn t (.inRegion ops (i :: r) :: k) .run) cs none s w).bare = goTo (Frame.enter p g args .normal) (fram fn t (.inRegion ops (i :: r) :: k) .run :: cs) w' := by
  simp [stepG.apply, Sem.runT_eq, h, goTo, fram]
theorem apply_panic {fr : Frame} {s : Sem Next} {v : Value} {w' : World} (h : s.run p w = .halt (.panic v) w') : (stepG.apply p true fr cs none s w).bare = goTo (fr.raise [{ v, recovered := false }]) cs w' := by
  simp [stepG.apply, Sem.runT_eq, h, goTo]
theorem apply_stuck {fr : Frame} {s : Sem Next} {m : String} {w' : World} (h : s.run p w = .halt (.stuck m) w') : ∃ o, (stepG.apply p true fr cs none s w).bare = .ended o w' := by
  simp [stepG.apply, Sem.runT_eq, h]
theorem apply_unsupported {fr : Frame} {s : Sem Next} {u : Unsupported} {w' : World} (h : s.run p w = .halt (.unsupported u) w') (hn : ∀ g, p.stepOf g = none) (hf : p.follows .staticDataAhead = true) : ∃ o w'', (stepG.apply p true fr cs none s w).bare = .ended o w'' := by
  cases u
  case initOrder g => simp [stepG.apply, Sem.runT_eq, h, early, hn, hf]
  all_goals simp [stepG.apply, Sem.runT_eq, h]

end Go.Proofs.YthocnlalahknjaaGreat
namespace Go.Proofs.YthocnlalahknjaaGreat
open Go

def okRes (F : Nat → Bool) (rs : Array ResultVar) : Bool :=
  match rs.toList with
  | [] => true
  | [.tmp a] => !F a
  | [.tmp a, .tmp b] => !F a && !F b
  | _ => false

def callOp (k : FuncId) : Oper := { dst := some 3, op := .call { callee := .value (.func k), args := #[.tmp 2, .tmp 0, .tmp 1], argTypes := #[] }, type := 0, pos := "", after := #[], guard := none }
def gbody (k : FuncId) : Code := .seq (.region 0 #[callOp k] false) .ret

structure Sit (T : Tables) (f f' : Array Func) (S : Nat → Bool) (Fs : Nat → Nat → Bool) (k N : FuncId) (gfn : Func) : Prop where
  hS : ∀ g, S g = true → ∃ fn c, f[g]? = some fn ∧ f'[g]? = some fn ∧ fn.body = some c ∧ tameCode (Program.underlying ⟨T, f⟩) S Fs (Fs g) c = true ∧ okRes (Fs g) fn.results = true ∧ (fn.name == "runtime.NumGoroutine") = false
  hk : S k = true
  hkF : ∀ i, Fs k i = false
  hN : f'[N]? = some gfn
  hNb : gfn.body = some (gbody k)
  hNr : gfn.results = #[.tmp 3]
  hNt : gfn.ntmps = 4
  hNn : (gfn.name == "runtime.NumGoroutine") = false
  hE : ∀ g, Program.stepOf ⟨T, f'⟩ g = none
  hA : T.follows .staticDataAhead = true

/-- The frame at the bottom of the second run: it ends whatever comes back to it. -/
def c0 : Frame := { fn := 0, tmps := #[], todo := [.code (.refuse "")], defers := [{ target := .nil, args := #[] }], mode := .run, kind := .normal, roundOf := none }

variable {T : Tables} {f f' : Array Func} {S : Nat → Bool} {Fs : Nat → Nat → Bool} {k N : FuncId} {gfn : Func} {l : Value} {base : List Frame}

def V2 (N : FuncId) (l : Value) : Value := .func (.func N) #[] #[l]
def V1 (k : FuncId) (l : Value) : Value := .func (.func k) #[l] #[]

def tameAll (T : Tables) (f : Array Func) (S : Nat → Bool) (Fs : Nat → Nat → Bool) (fn : FuncId) (todo : List Item) : Prop := todo.all (tameItem (Program.underlying ⟨T, f⟩) S Fs (Fs fn)) = true

/-- Two callers that wait for one answer. -/
structure CA (T : Tables) (f : Array Func) (S : Nat → Bool) (Fs : Nat → Nat → Bool) (F2 F1 : Value) (c2 c1 : Frame) : Prop where
  out : ∃ fn ops i r kk t2 t1, c2 = fram fn t2 (.inRegion ops (i :: r) :: kk) .run ∧ c1 = fram fn t1 (.inRegion ops (i :: r) :: kk) .run ∧ S fn = true ∧ RT (Fs fn) F2 F1 t2 t1 ∧ tameAll T f S Fs fn (.inRegion ops r :: kk) ∧ ∀ d, (ops[i]?).bind (·.dst) = some d → Fs fn d = false

inductive CR (T : Tables) (f : Array Func) (S : Nat → Bool) (Fs : Nat → Nat → Bool) (k N : FuncId) (l : Value) (base : List Frame) : List Frame → List Frame → Prop
  | base : CR T f S Fs k N l base [c0] base
  | cons {c2 c1 cs2 cs1} : CA T f S Fs (V2 N l) (V1 k l) c2 c1 → CR T f S Fs k N l base cs2 cs1 → CR T f S Fs k N l base (c2 :: cs2) (c1 :: cs1)
  | ext {c2 c1 cs2 cs1} (x y : Value) : CA T f S Fs (V2 N l) (V1 k l) c2 c1 → CR T f S Fs k N l base cs2 cs1 →
      CR T f S Fs k N l base (fram N #[x, y, l, undef] [.inRegion #[callOp k] [0], .code .ret] .run :: c2 :: cs2) (c1 :: cs1)

inductive ST (T : Tables) (f : Array Func) (S : Nat → Bool) (Fs : Nat → Nat → Bool) (k N : FuncId) (l : Value) (base : List Frame) : Frame → List Frame → Frame → List Frame → Prop
  | norm {fn t2 t1 todo m cs2 cs1} : S fn = true → RT (Fs fn) (V2 N l) (V1 k l) t2 t1 → tameAll T f S Fs fn todo → (m = .run ∨ m = .returning) → CR T f S Fs k N l base cs2 cs1 →
      ST T f S Fs k N l base (fram fn t2 todo m) cs2 (fram fn t1 todo m) cs1
  | pre {c2 c1 cs2 cs1} (x y : Value) (todo : List Item) : (todo = [.code (gbody k)] ∨ todo = [.code (.region 0 #[callOp k] false), .code .ret] ∨ todo = [.inRegion #[callOp k] [0], .code .ret]) →
      CA T f S Fs (V2 N l) (V1 k l) c2 c1 → CR T f S Fs k N l base cs2 cs1 → ST T f S Fs k N l base (fram N #[x, y, l, undef] todo .run) (c2 :: cs2) (Frame.enter ⟨T, f⟩ k #[l, x, y] .normal) (c1 :: cs1)
  | post {c2 c1 cs2 cs1} (x y v : Value) (todo : List Item) (m : FrameMode) : ((m = .run ∧ todo = [.inRegion #[callOp k] [], .code .ret]) ∨ (m = .run ∧ todo = [.code .ret]) ∨ (m = .returning ∧ todo = [.code .ret])) →
      CA T f S Fs (V2 N l) (V1 k l) c2 c1 → CR T f S Fs k N l base cs2 cs1 → ST T f S Fs k N l base (fram N #[x, y, l, v] todo m) (c2 :: cs2) (c1.finish v) cs1

theorem tameAll.head {fn : FuncId} {i : Item} {k : List Item} (h : tameAll T f S Fs fn (i :: k)) : tameItem (Program.underlying ⟨T, f⟩) S Fs (Fs fn) i = true ∧ tameAll T f S Fs fn k := by
  simpa [tameAll] using h

theorem tameAll.exit {fn : FuncId} {id : Nat} : ∀ {k k' : List Item}, tameAll T f S Fs fn k → exitTo id k = some k' → tameAll T f S Fs fn k' := by
  intro k
  induction k with
  | nil => intro k' h e; simp [exitTo] at e
  | cons i k ih =>
    intro k' h e
    cases i <;> simp only [exitTo] at e <;> first | exact ih h.head.2 e | skip
    split at e
    · cases e; exact h.head.2
    · exact ih h.head.2 e

theorem CA.finish {F2 F1 : Value} {c2 c1 : Frame} (h : CA T f S Fs F2 F1 c2 c1) (v : Value) : ∃ fn t2 t1 todo, c2.finish v = fram fn t2 todo .run ∧ c1.finish v = fram fn t1 todo .run ∧ S fn = true ∧ RT (Fs fn) F2 F1 t2 t1 ∧ tameAll T f S Fs fn todo := by
  obtain ⟨fn, ops, i, r, kk, t2, t1, rfl, rfl, hS, hR, hT, hd⟩ := h.out
  refine ⟨fn, _, _, _, finish_fram _ _ _ _ _ _ _ _, finish_fram _ _ _ _ _ _ _ _, hS, ?_, hT⟩
  exact hR.finish ops i v v fun d e => ⟨fun _ => rfl, fun hf => by rw [hd d e] at hf; exact absurd hf (by decide)⟩

theorem results_ok {F : Nat → Bool} {F2 F1 : Value} {t2 t1 : Array Value} {fn : Func} (h : okRes F fn.results = true) (hR : RT F F2 F1 t2 t1) (p q : Program) (w : World) :
    ∃ v, (results fn t2).run q w = .ok v w ∧ (results fn t1).run p w = .ok v w := by
  have e : ∀ a, F a = false → t1.getD a undef = t2.getD a undef := fun a ha => by
    rw [Array.getD_eq_getD_getElem?, Array.getD_eq_getD_getElem?, (hR.2 a).1 ha]
  unfold okRes at h
  generalize hrs : fn.results = rs at h
  obtain ⟨rs⟩ := rs
  simp only at h
  split at h
  · exact ⟨_, results_none hrs _ _ _, results_none hrs _ _ _⟩
  · next a =>
    have h' : F a = false := by simpa using h
    refine ⟨_, results_tmp hrs _ _ _, ?_⟩
    rw [← e a h']; exact results_tmp hrs _ _ _
  · next a b =>
    have h' : F a = false ∧ F b = false := by simpa using h
    refine ⟨_, results_tmp2 hrs _ _ _, ?_⟩
    rw [← e a h'.1, ← e b h'.2]; exact results_tmp2 hrs _ _ _
  · exact absurd h (by decide)

theorem G_return {p : Program} {fn : FuncId} {t : Array Value} {todo : List Item} {c : Frame} {cs : List Frame} {w : World} {g : Func} {v : Value} (hf : p.funcs[fn]? = some g) (h : (results g t).run p w = .ok v w) :
    G p (fram fn t todo .returning) (c :: cs) w = goTo (c.finish v) cs w := by
  simp [G, goTo, stepG, unwind, fram, hf, Sem.runT_eq, h, doReturn]

end Go.Proofs.YthocnlalahknjaaGreat
namespace Go.Proofs.YthocnlalahknjaaGreat
open Go

variable {T : Tables} {f f' : Array Func} {S : Nat → Bool} {Fs : Nat → Nat → Bool} {k N : FuncId} {gfn : Func} {l : Value} {base : List Frame}

theorem okArgs_at {F H : Nat → Bool} : ∀ {as : List Operand} {n : Nat}, okArgs F H as n = true → ∀ i a, as[i]? = some a → okArg F H a (n + i) = true := by
  intro as
  induction as with
  | nil => intro n _ i a h; simp at h
  | cons b as ih =>
    intro n h i a ha
    simp only [okArgs, Bool.and_eq_true] at h
    cases i with
    | zero => simp at ha; subst ha; exact h.1
    | succ i =>
      have := ih h.2 i a (by simpa using ha)
      rwa [show n + 1 + i = n + (i + 1) from by omega] at this

/-- The frames of a call in both runs. -/
theorem RT.enter {F H : Nat → Bool} {F2 F1 : Value} {t2 t1 : Array Value} (h : RT F F2 F1 t2 t1) {as : Array Operand} (ha : okArgs F H as.toList 0 = true) (fn : FuncId) (kk : List Item) (m : FrameMode) (n : Nat) :
    RT H F2 F1 (as.map (fram fn t2 kk m).eval ++ Array.replicate n undef) (as.map (fram fn t1 kk m).eval ++ Array.replicate n undef) := by
  refine ⟨by simp, fun i => ?_⟩
  by_cases hi : i < as.size
  · rw [Array.getElem?_append_left (by simp; exact hi), Array.getElem?_append_left (by simp; exact hi)]
    have ea : as[i]? = some as[i] := by simp [hi]
    rw [Array.getElem?_map, Array.getElem?_map, ea]
    have ho := okArgs_at ha i as[i] (by simp [hi])
    rw [Nat.zero_add] at ho
    simp only [Option.map_some]
    generalize as[i] = a at ho ⊢
    cases a with
    | tmp x =>
      simp only [okArg, beq_iff_eq] at ho
      refine ⟨fun hf => ?_, fun hf => ?_⟩
      · rw [h.eval (.tmp x) (by simp [okVar, ho, hf])]
      · rcases h.evalF x (by rw [ho]; exact hf) fn kk m with ⟨e1, e2⟩ | ⟨e2, e1⟩
        · left; rw [e1, e2]; exact ⟨rfl, fun v hv => by cases hv; rfl⟩
        · right; exact ⟨congrArg some e2, congrArg some e1⟩
    | _ =>
      simp only [okArg, Bool.not_eq_true'] at ho
      exact ⟨fun _ => rfl, fun hf => by rw [ho] at hf; exact absurd hf (by decide)⟩
  · rw [Array.getElem?_append_right (by simp; omega), Array.getElem?_append_right (by simp; omega)]
    simp only [Array.size_map]
    refine ⟨fun _ => trivial, fun _ => Or.inl ⟨trivial, fun v hv => ?_⟩⟩
    rw [Array.getElem?_replicate] at hv
    split at hv
    · cases hv; rfl
    · cases hv

/-- Each answer of the tree is such. -/
def Leaf {α : Type} (Q : α → Prop) : Sem α → Prop
  | .pure a => Q a
  | .load _ _ k => ∀ v, Leaf Q (k v)
  | .store _ _ _ k => Leaf Q k
  | .new _ k => ∀ n, Leaf Q (k n)
  | .shape _ k => ∀ s, Leaf Q (k s)
  | .freeze _ _ k => Leaf Q k
  | .frozen _ k => ∀ b, Leaf Q (k b)
  | .getObj _ k => ∀ o, Leaf Q (k o)
  | .setObj _ _ k => Leaf Q k
  | .choose _ k => ∀ n, Leaf Q (k n)
  | .sys _ k => ∀ r, Leaf Q (k r)
  | .program k => ∀ p, Leaf Q (k p)
  | .mark _ k => Leaf Q k
  | .halt _ => True

theorem Leaf.bind {α β : Type} {Q : β → Prop} (s : Sem α) {f : α → Sem β} (hf : ∀ a, Leaf Q (f a)) : Leaf Q (s >>= f) := by
  show Leaf Q (s.bind f)
  induction s with
  | pure a => exact hf a
  | load m a k ih => intro v; exact ih v
  | store m a v k ih => exact ih
  | new o k ih => intro n; exact ih n
  | shape r k ih => intro n; exact ih n
  | freeze a n k ih => exact ih
  | frozen a k ih => intro n; exact ih n
  | getObj r k ih => intro n; exact ih n
  | setObj r o k ih => exact ih
  | choose r k ih => intro n; exact ih n
  | sys c k ih => intro n; exact ih n
  | program k ih => intro n; exact ih n
  | mark m k ih => exact ih
  | halt h => trivial

theorem Leaf.run {α : Type} {Q : α → Prop} {p : Program} {s : Sem α} (h : Leaf Q s) : ∀ {w a w'}, s.run p w = .ok a w' → Q a := by
  induction s with
  | pure a => intro w b w' e; cases e; exact h
  | load m a k ih =>
    intro w b w' e
    simp only [Sem.run] at e
    split at e
    · exact ih _ (h _) e
    · split at e
      · exact ih _ (h _) e
      · cases e
  | store m a v k ih =>
    intro w b w' e
    cases v <;> simp only [Sem.run] at e <;> first | cases e | skip
    all_goals
      split at e
      · split at e
        · cases e
        · exact ih h e
      · split at e
        · exact ih h e
        · cases e
  | new o k ih => intro w b w' e; exact ih _ (h _) e
  | shape r k ih => intro w b w' e; exact ih _ (h _) e
  | freeze a n k ih => intro w b w' e; exact ih h e
  | frozen a k ih => intro w b w' e; exact ih _ (h _) e
  | getObj r k ih =>
    intro w b w' e
    simp only [Sem.run] at e
    split at e
    · cases e
    · exact ih _ (h _) e
    · cases e
  | setObj r o k ih =>
    intro w b w' e
    simp only [Sem.run] at e
    split at e
    · cases e
    · exact ih h e
    · cases e
  | choose q k ih =>
    intro w b w' e
    simp only [Sem.run] at e
    split at e
    · exact ih _ (h _) e
    · exact ih _ (h _) e
  | sys c k ih => intro w b w' e; exact ih _ (h _) e
  | program k ih => intro w b w' e; exact ih _ (h _) e
  | mark m k ih => intro w b w' e; exact ih h e
  | halt e => intro w b w' e'; cases e'

def isVal : Next → Prop
  | .value _ | .skip => True
  | _ => False

theorem leaf_execOp {und : TypeId → Option TypeDesc} (ρ : Operand → Value) {o : Oper} (h : okOp und o.op = true) : Leaf isVal (execOp ρ o) := by
  obtain ⟨dst, op, type, pos, after, guard⟩ := o
  cases op <;> first | exact trivial | exact absurd h Bool.false_ne_true | exact Leaf.bind _ fun _ => trivial | skip
  case nilCheck x =>
    unfold execOp
    dsimp only
    split
    · exact fun _ => trivial
    · exact fun _ => trivial
    · exact fun _ => trivial
    · split
      · exact fun _ => trivial
      · refine Leaf.bind _ fun q => Leaf.bind _ fun r => ?_
        split
        · trivial
        · trivial
      · trivial
    · trivial
  case call c =>
    obtain ⟨callee, args, ats⟩ := c
    cases callee <;> first | exact absurd h Bool.false_ne_true | skip
    next b =>
      cases b <;> first | exact absurd h Bool.false_ne_true | skip
      exact Leaf.bind (Builtin.len_ ats type (args.map ρ)) fun _ => trivial

/-- The four ends of a step. -/
def Lock (T : Tables) (f f' : Array Func) (S : Nat → Bool) (Fs : Nat → Nat → Bool) (k N : FuncId) (l : Value) (base : List Frame) (fr2 : Frame) (cs2 : List Frame) (fr1 : Frame) (cs1 : List Frame) (w : World) : Prop :=
  (∃ o w', G ⟨T, f'⟩ fr2 cs2 w = .ended o w') ∨
  (∃ chain w', G ⟨T, f'⟩ fr2 cs2 w = goTo (fr2.raise chain) cs2 w' ∧ ∃ fn t todo, fr2 = fram fn t todo .run) ∨
  (∃ fr2' cs2' fr1' cs1' w', G ⟨T, f'⟩ fr2 cs2 w = goTo fr2' cs2' w' ∧ ST T f S Fs k N l base fr2' cs2' fr1' cs1' ∧ (G ⟨T, f⟩ fr1 cs1 w = goTo fr1' cs1' w' ∨ (fr1' = fr1 ∧ cs1' = cs1 ∧ w' = w))) ∨
  (cs2 = [c0] ∧ cs1 = base ∧ ∃ fn t2 t1 todo, fr2 = fram fn t2 todo .returning ∧ fr1 = fram fn t1 todo .returning ∧ S fn = true ∧ RT (Fs fn) (V2 N l) (V1 k l) t2 t1)

theorem Lock.both {fr2 : Frame} {cs2 : List Frame} {fr1 : Frame} {cs1 : List Frame} {w : World} {fr2' : Frame} {cs2' : List Frame} {fr1' : Frame} {cs1' : List Frame} {w' : World}
    (h2 : G ⟨T, f'⟩ fr2 cs2 w = goTo fr2' cs2' w') (h1 : G ⟨T, f⟩ fr1 cs1 w = goTo fr1' cs1' w') (h : ST T f S Fs k N l base fr2' cs2' fr1' cs1') : Lock T f f' S Fs k N l base fr2 cs2 fr1 cs1 w :=
  Or.inr (Or.inr (Or.inl ⟨_, _, _, _, _, h2, h, Or.inl h1⟩))

/-- An operation that both runs answer alike. -/
theorem lock_same (sit : Sit T f f' S Fs k N gfn) {fn : FuncId} {t2 t1 : Array Value} {ops : Array Oper} {i : Nat} {r : List Nat} {kk : List Item} {cs2 cs1 : List Frame} {w : World} {o : Oper}
    (hS : S fn = true) (hR : RT (Fs fn) (V2 N l) (V1 k l) t2 t1) (hT : tameAll T f S Fs fn (.inRegion ops (i :: r) :: kk)) (hC : CR T f S Fs k N l base cs2 cs1)
    (ho : ops[i]? = some o) (hw : Region.wanted o (yielded ops t2) = true) (hok : okOp (Program.underlying ⟨T, f⟩) o.op = true) (hv : o.op.operands.all (okVar (Fs fn)) = true) (hd : ∀ d, o.dst = some d → Fs fn d = false) :
    Lock T f f' S Fs k N l base (fram fn t2 (.inRegion ops (i :: r) :: kk) .run) cs2 (fram fn t1 (.inRegion ops (i :: r) :: kk) .run) cs1 w := by
  have hy := hR.yielded ⟨_, _, _, rfl⟩ ⟨_, _, _, rfl⟩ ops
  have e : execOp (fram fn t1 (.inRegion ops (i :: r) :: kk) .run).eval o = execOp (fram fn t2 (.inRegion ops (i :: r) :: kk) .run).eval o :=
    execOp_congr hok fun x hx => hR.eval x (by rw [Array.all_eq_true'] at hv; exact hv x hx) _ _ _
  have q2 := G_oper (p := ⟨T, f'⟩) (fn := fn) (t := t2) (k := kk) (cs := cs2) (w := w) ops i r o ho hw
  have q1 := G_oper (p := ⟨T, f⟩) (fn := fn) (t := t1) (k := kk) (cs := cs1) (w := w) ops i r o ho (by rw [hy]; exact hw)
  rw [e] at q1
  have ht := tab_execOp (T := T) (f := f) (f' := f') (fram fn t2 (.inRegion ops (i :: r) :: kk) .run).eval o hok
  have hrun := Tab.run T f f' ht w
  have hbind : (ops[i]?).bind (·.dst) = o.dst := by rw [ho]; rfl
  have fin : ∀ v, ST T f S Fs k N l base ((fram fn t2 (.inRegion ops (i :: r) :: kk) .run).finish v) cs2 ((fram fn t1 (.inRegion ops (i :: r) :: kk) .run).finish v) cs1 := fun v => by
    rw [finish_fram, finish_fram]
    refine ST.norm hS (hR.finish ops i v v fun d hd' => ?_) hT (Or.inl rfl) hC
    rw [hbind] at hd'
    exact ⟨fun _ => rfl, fun hf => by rw [hd d hd'] at hf; exact absurd hf (by decide)⟩
  cases hr : (execOp (fram fn t2 (.inRegion ops (i :: r) :: kk) .run).eval o).run ⟨T, f'⟩ w with
  | halt h w' =>
    have hm := hrun.2 h w' hr
    cases h <;> first | exact hm.elim | skip
    case panic v => exact Or.inr (Or.inl ⟨_, w', by rw [q2, apply_panic hr], fn, t2, _, rfl⟩)
    case unsupported u =>
      obtain ⟨o', w'', h'⟩ := apply_unsupported (cs := cs2) (fr := fram fn t2 (.inRegion ops (i :: r) :: kk) .run) hr sit.hE sit.hA
      exact Or.inl ⟨o', w'', by rw [q2, h']⟩
    case stuck m =>
      obtain ⟨o', h'⟩ := apply_stuck (cs := cs2) (fr := fram fn t2 (.inRegion ops (i :: r) :: kk) .run) hr
      exact Or.inl ⟨o', _, by rw [q2, h']⟩
  | ok a w' =>
    have hr1 := hrun.1
    rw [hr] at hr1
    have hl := (leaf_execOp _ hok).run hr
    cases a <;> first | exact hl.elim | skip
    case value v => exact Lock.both (by rw [q2, apply_value hr]) (by rw [q1, apply_value hr1]) (fin v)
    case skip => exact Lock.both (by rw [q2, apply_skip hr]) (by rw [q1, apply_skip hr1]) (fin undef)

end Go.Proofs.YthocnlalahknjaaGreat
namespace Go.Proofs.YthocnlalahknjaaGreat
open Go

variable {T : Tables} {f f' : Array Func} {S : Nat → Bool} {Fs : Nat → Nat → Bool} {k N : FuncId} {gfn : Func} {l : Value} {base : List Frame}

theorem callFunc_enter {p : Program} {g : FuncId} {fn : Func} {c : Code} (hf : p.funcs[g]? = some fn) (hb : fn.body = some c) (hn : (fn.name == "runtime.NumGoroutine") = false) (args : Array Value) (w : World) :
    (callFunc g args).run p w = .ok (.enter g args) w := by
  simp [callFunc, program, Sem.run, hf, hb, Bind.bind, Sem.bind, pure]
  simpa using hn

theorem enter_fram {p : Program} {g : FuncId} {fn : Func} {c : Code} (hf : p.funcs[g]? = some fn) (hb : fn.body = some c) (args : Array Value) :
    Frame.enter p g args .normal = fram g (args ++ Array.replicate (fn.ntmps - args.size) undef) [.code c] .run := by
  simp [Frame.enter, fram, hf, hb]

theorem execOp_callFunc (ρ : Operand → Value) (o : Oper) (g : FuncId) (args : Array Operand) (ts : Array TypeId) (h : o.op = .call { callee := .value (.func g), args := args, argTypes := ts }) (hρ : ρ (.func g) = .func (.func g) #[] #[]) :
    execOp ρ o = callFunc g (args.map ρ) := by
  unfold execOp
  rw [h]
  simp [resolve, hρ, Deferred.ofValue, invoke, pure, Bind.bind, Sem.bind]

theorem execOp_callValue (ρ : Operand → Value) (o : Oper) (x : Operand) (g : FuncId) (first captured : Array Value) (args : Array Operand) (ts : Array TypeId) (h : o.op = .call { callee := .value x, args := args, argTypes := ts }) (hρ : ρ x = .func (.func g) first captured) :
    execOp ρ o = callFunc g (first ++ args.map ρ ++ captured) := by
  unfold execOp
  rw [h]
  simp [resolve, hρ, Deferred.ofValue, invoke, pure, Bind.bind, Sem.bind]

theorem execOp_callUndef (ρ : Operand → Value) (o : Oper) (x : Operand) (args : Array Operand) (ts : Array TypeId) (h : o.op = .call { callee := .value x, args := args, argTypes := ts }) (hρ : ρ x = undef) (p : Program) (w : World) :
    (execOp ρ o).run p w = .halt (.stuck "call: function value expected") w := by
  unfold execOp
  rw [h]
  simp [resolve, hρ, Deferred.ofValue, undef, stuck, Bind.bind, Sem.bind]

theorem RT.refl {F : Nat → Bool} {F2 F1 : Value} (hF : ∀ i, F i = false) (t : Array Value) : RT F F2 F1 t t :=
  ⟨rfl, fun i => ⟨fun _ => rfl, fun h => by rw [hF i] at h; exact absurd h (by decide)⟩⟩

theorem lock_oper (sit : Sit T f f' S Fs k N gfn) {fn : FuncId} {t2 t1 : Array Value} {ops : Array Oper} {i : Nat} {r : List Nat} {kk : List Item} {cs2 cs1 : List Frame} {w : World} {o : Oper}
    (hS : S fn = true) (hR : RT (Fs fn) (V2 N l) (V1 k l) t2 t1) (hT : tameAll T f S Fs fn (.inRegion ops (i :: r) :: kk)) (hC : CR T f S Fs k N l base cs2 cs1)
    (ho : ops[i]? = some o) (hw : Region.wanted o (yielded ops t2) = true) :
    Lock T f f' S Fs k N l base (fram fn t2 (.inRegion ops (i :: r) :: kk) .run) cs2 (fram fn t1 (.inRegion ops (i :: r) :: kk) .run) cs1 w := by
  have htame : tameOp (Program.underlying ⟨T, f⟩) S Fs (Fs fn) o = true := by
    have h := hT.head.1
    simp only [tameItem, Array.all_eq_true'] at h
    exact h o (Array.mem_of_getElem? ho)
  have hbind : (ops[i]?).bind (·.dst) = o.dst := by rw [ho]; rfl
  have hy := hR.yielded ⟨_, _, _, rfl⟩ ⟨_, _, _, rfl⟩ ops
  have q2 := G_oper (p := ⟨T, f'⟩) (fn := fn) (t := t2) (k := kk) (cs := cs2) (w := w) ops i r o ho hw
  have q1 := G_oper (p := ⟨T, f⟩) (fn := fn) (t := t1) (k := kk) (cs := cs1) (w := w) ops i r o ho (by rw [hy]; exact hw)
  have mv : ∀ x, (o.op = .move (.tmp x) ∨ o.op = .assign (.tmp x)) → (∀ d, o.dst = some d → Fs fn d = Fs fn x) → Lock T f f' S Fs k N l base (fram fn t2 (.inRegion ops (i :: r) :: kk) .run) cs2 (fram fn t1 (.inRegion ops (i :: r) :: kk) .run) cs1 w := by
    intro x hop hd
    have e : ∀ (ρ : Operand → Value) (p : Program), (execOp ρ o).run p w = .ok (.value (ρ (.tmp x))) w := fun ρ p => by
      unfold execOp; rcases hop with h | h <;> rw [h] <;> rfl
    refine Lock.both (by rw [q2, apply_value (e _ _)]) (by rw [q1, apply_value (e _ _)]) ?_
    rw [finish_fram, finish_fram]
    refine ST.norm hS (hR.finish ops i _ _ fun d hd' => ?_) hT (Or.inl rfl) hC
    rw [hbind] at hd'
    have hdx := hd d hd'
    refine ⟨fun h0 => hR.eval (.tmp x) (by simp [okVar, ← hdx, h0]) _ _ _, fun h1 => ?_⟩
    rcases hR.evalF x (by rw [← hdx]; exact h1) fn (.inRegion ops (i :: r) :: kk) .run with ⟨a, b⟩ | ⟨a, b⟩
    · exact Or.inl ⟨a, b⟩
    · exact Or.inr ⟨a, b⟩
  have ca : ∀ {d : Option Tmp}, o.dst = d → (match d with | some d => !Fs fn d | none => true) = true → CA T f S Fs (V2 N l) (V1 k l) (fram fn t2 (.inRegion ops (i :: r) :: kk) .run) (fram fn t1 (.inRegion ops (i :: r) :: kk) .run) := by
    intro d e hd
    refine ⟨fn, ops, i, r, kk, t2, t1, rfl, rfl, hS, hR, hT, fun d' hd' => ?_⟩
    rw [hbind, e] at hd'
    subst hd'
    simpa using hd
  unfold tameOp at htame
  split at htame
  · next x hop =>
    refine mv x (Or.inl hop) fun d hd => ?_
    rw [hd] at htame
    simpa using htame
  · next x hop =>
    refine mv x (Or.inr hop) fun d hd => ?_
    rw [hd] at htame
    simpa using htame
  · next x a ts hop =>
    simp only [Bool.and_eq_true, beq_iff_eq] at htame
    obtain ⟨⟨⟨hx, hsz⟩, hall⟩, hd⟩ := htame
    rcases hR.evalF x hx fn (.inRegion ops (i :: r) :: kk) .run with ⟨e1, e2⟩ | ⟨e2, e1⟩
    · obtain ⟨o', h'⟩ := apply_stuck (cs := cs2) (fr := fram fn t2 (.inRegion ops (i :: r) :: kk) .run) (execOp_callUndef _ o _ _ _ hop e2 ⟨T, f'⟩ w)
      exact Or.inl ⟨o', w, by rw [q2, h']⟩
    · have ea : a.map (fram fn t1 (.inRegion ops (i :: r) :: kk) .run).eval = a.map (fram fn t2 (.inRegion ops (i :: r) :: kk) .run).eval :=
        Array.map_congr_left fun y hy => hR.eval y (by rw [Array.all_eq_true'] at hall; exact hall y hy) _ _ _
      obtain ⟨fk, ck, hfk, hfk', hbk, _, _, hnk⟩ := sit.hS k sit.hk
      have x2 := execOp_callValue _ o _ _ _ _ _ _ hop e2
      have x1 := execOp_callValue _ o _ _ _ _ _ _ hop e1
      rw [ea] at x1
      rw [x2, apply_enter (callFunc_enter sit.hN sit.hNb sit.hNn _ _)] at q2
      rw [x1, apply_enter (callFunc_enter hfk hbk hnk _ _)] at q1
      generalize hm : a.map (fram fn t2 (.inRegion ops (i :: r) :: kk) .run).eval = m at q2 q1
      have hm2 : m.size = 2 := by rw [← hm]; simpa using hsz
      obtain ⟨x, y, rfl⟩ : ∃ x y, m = #[x, y] := by
        obtain ⟨m⟩ := m
        match m, hm2 with
        | [x, y], _ => exact ⟨x, y, rfl⟩
      have en : Frame.enter ⟨T, f'⟩ N (#[] ++ #[x, y] ++ #[l]) .normal = fram N #[x, y, l, undef] [.code (gbody k)] .run := by
        rw [enter_fram sit.hN sit.hNb, sit.hNt]; rfl
      rw [en] at q2
      have e3 : (#[l] ++ #[x, y] ++ #[] : Array Value) = #[l, x, y] := rfl
      rw [e3] at q1
      exact Lock.both q2 q1 (ST.pre x y _ (Or.inl rfl) (ca rfl hd) hC)
  · next g a ts hop =>
    simp only [Bool.and_eq_true] at htame
    obtain ⟨⟨hg, hargs⟩, hd⟩ := htame
    obtain ⟨fg, cg, hfg, hfg', hbg, htg, _, hng⟩ := sit.hS g hg
    have x2 := execOp_callFunc (fram fn t2 (.inRegion ops (i :: r) :: kk) .run).eval o g a ts hop rfl
    have x1 := execOp_callFunc (fram fn t1 (.inRegion ops (i :: r) :: kk) .run).eval o g a ts hop rfl
    rw [x2, apply_enter (callFunc_enter hfg' hbg hng _ _), enter_fram hfg' hbg] at q2
    rw [x1, apply_enter (callFunc_enter hfg hbg hng _ _), enter_fram hfg hbg] at q1
    simp only [Array.size_map] at q1 q2
    refine Lock.both q2 q1 (ST.norm hg (hR.enter hargs _ _ _ _) ?_ (Or.inl rfl) (CR.cons (ca rfl hd) hC))
    simpa [tameAll, tameItem] using htg
  · next op hop1 hop2 hop3 hop4 =>
    simp only [Bool.and_eq_true] at htame
    refine lock_same sit hS hR hT hC ho hw htame.1.1 htame.1.2 fun d hd => ?_
    have := htame.2
    rw [hd] at this
    simpa using this

end Go.Proofs.YthocnlalahknjaaGreat
namespace Go.Proofs.YthocnlalahknjaaGreat
open Go

variable {T : Tables} {f f' : Array Func} {S : Nat → Bool} {Fs : Nat → Nat → Bool} {k N : FuncId} {gfn : Func} {l : Value} {base : List Frame}

theorem tame_code {fn : FuncId} {c : Code} {kk : List Item} (h : tameAll T f S Fs fn (.code c :: kk)) : tameCode (Program.underlying ⟨T, f⟩) S Fs (Fs fn) c = true := h.head.1

theorem tame_cons {fn : FuncId} {i : Item} {kk : List Item} (h : tameItem (Program.underlying ⟨T, f⟩) S Fs (Fs fn) i = true) (h' : tameAll T f S Fs fn kk) : tameAll T f S Fs fn (i :: kk) := by
  unfold tameAll at *
  simp [h, h']

theorem lock_norm (sit : Sit T f f' S Fs k N gfn) {fn : FuncId} {t2 t1 : Array Value} {todo : List Item} {cs2 cs1 : List Frame} {w : World}
    (hS : S fn = true) (hR : RT (Fs fn) (V2 N l) (V1 k l) t2 t1) (hT : tameAll T f S Fs fn todo) (hC : CR T f S Fs k N l base cs2 cs1) :
    Lock T f f' S Fs k N l base (fram fn t2 todo .run) cs2 (fram fn t1 todo .run) cs1 w := by
  have st : ∀ {todo'}, tameAll T f S Fs fn todo' → ST T f S Fs k N l base (fram fn t2 todo' .run) cs2 (fram fn t1 todo' .run) cs1 := fun h => ST.norm hS hR h (Or.inl rfl) hC
  match todo, hT with
  | [], hT => exact Lock.both G_nil G_nil (ST.norm hS hR hT (Or.inr rfl) hC)
  | .inBlock id :: kk, hT => exact Lock.both (G_inBlock id) (G_inBlock id) (st hT.head.2)
  | .inLoop b :: kk, hT => exact Lock.both (G_inLoop b) (G_inLoop b) (st (tame_cons hT.head.1 hT))
  | .inRegion ops [] :: kk, hT => exact Lock.both (G_inRegion_nil ops) (G_inRegion_nil ops) (st hT.head.2)
  | .inRegion ops (i :: r) :: kk, hT =>
    have hy := hR.yielded ⟨_, _, _, rfl⟩ ⟨_, _, _, rfl⟩ ops
    have no : ((ops[i]?).map (Region.wanted · (yielded ops t2))).getD false = false → Lock T f f' S Fs k N l base (fram fn t2 (.inRegion ops (i :: r) :: kk) .run) cs2 (fram fn t1 (.inRegion ops (i :: r) :: kk) .run) cs1 w := fun h => by
      refine Lock.both (G_notWanted ops i r h) (G_notWanted ops i r (by rw [hy]; exact h)) ?_
      rw [finish_fram, finish_fram]
      exact ST.norm hS (hR.finish ops i undef undef fun d _ => ⟨fun _ => rfl, fun _ => Or.inl ⟨rfl, rfl⟩⟩) hT (Or.inl rfl) hC
    cases ho : ops[i]? with
    | none => exact no (by rw [ho]; rfl)
    | some o =>
      cases hw : Region.wanted o (yielded ops t2) with
      | true => exact lock_oper sit hS hR hT hC ho hw
      | false => exact no (by rw [ho]; exact hw)
  | .inScope _ :: kk, hT => exact absurd hT.head.1 Bool.false_ne_true
  | .inRangeFunc _ :: kk, hT => exact absurd hT.head.1 Bool.false_ne_true
  | .endRangeFunc _ :: kk, hT => exact absurd hT.head.1 Bool.false_ne_true
  | .beginRound :: kk, hT => exact absurd hT.head.1 Bool.false_ne_true
  | .call .. :: kk, hT => exact absurd hT.head.1 Bool.false_ne_true
  | .extern .. :: kk, hT => exact absurd hT.head.1 Bool.false_ne_true
  | .code c :: kk, hT =>
    have hc := tame_code hT
    have hk := hT.head.2
    match c, hc with
    | .skip, _ => exact Lock.both G_skip G_skip (st hk)
    | .ret, _ => exact Lock.both G_ret G_ret (ST.norm hS hR hT (Or.inr rfl) hC)
    | .exit id, _ =>
      cases he : exitTo id kk with
      | none => obtain ⟨o, h⟩ := G_exit_bad (p := ⟨T, f'⟩) (fn := fn) (t := t2) (cs := cs2) (w := w) id he; exact Or.inl ⟨o, w, h⟩
      | some k' => exact Lock.both (G_exit id he) (G_exit id he) (st (hk.exit he))
    | .region id ops false, hc => exact Lock.both (G_region id ops) (G_region id ops) (st (tame_cons hc hk))
    | .region id ops true, hc => exact Lock.both (G_regionDraw id ops) (G_regionDraw id ops) (st (tame_cons hc hk))
    | .seq a b, hc =>
      simp only [tameCode, Bool.and_eq_true] at hc
      exact Lock.both (G_seq a b) (G_seq a b) (st (tame_cons hc.1 (tame_cons hc.2 hk)))
    | .cond c a b, hc =>
      simp only [tameCode, Bool.and_eq_true] at hc
      have ev := hR.eval c hc.1.1 fn (.code (.cond c a b) :: kk) .run
      by_cases hb : ∃ x, (fram fn t2 (.code (.cond c a b) :: kk) .run).eval c = .bool x
      · obtain ⟨x, hx⟩ := hb
        refine Lock.both (G_cond c a b x hx) (G_cond c a b x (by rw [ev]; exact hx)) (st (tame_cons ?_ hk))
        cases x
        · exact hc.2
        · exact hc.1.2
      · obtain ⟨o, h⟩ := G_cond_bad (p := ⟨T, f'⟩) (fn := fn) (t := t2) (k := kk) (cs := cs2) (w := w) c a b fun x hx => hb ⟨x, hx⟩
        exact Or.inl ⟨o, w, h⟩
    | .block id b, hc => exact Lock.both (G_block id b) (G_block id b) (st (tame_cons hc (tame_cons rfl hk)))
    | .loop b, hc => exact Lock.both (G_loop b) (G_loop b) (st (tame_cons hc (tame_cons hc hk)))
    | .rangeFunc .., hc => exact absurd hc Bool.false_ne_true
    | .scope _, hc => exact absurd hc Bool.false_ne_true
    | .label _, hc => exact absurd hc Bool.false_ne_true
    | .goto _, hc => exact absurd hc Bool.false_ne_true
    | .refuse _, hc => exact absurd hc Bool.false_ne_true

theorem lock (sit : Sit T f f' S Fs k N gfn) {fr2 : Frame} {cs2 : List Frame} {fr1 : Frame} {cs1 : List Frame} (w : World) (h : ST T f S Fs k N l base fr2 cs2 fr1 cs1) :
    Lock T f f' S Fs k N l base fr2 cs2 fr1 cs1 w := by
  cases h with
  | norm hS hR hT hm hC =>
    rcases hm with rfl | rfl
    · exact lock_norm sit hS hR hT hC
    · next fn t2 t1 todo =>
      obtain ⟨g, c, hf, hf', hb, _, hres, _⟩ := sit.hS fn hS
      obtain ⟨v, r2, r1⟩ := results_ok hres hR ⟨T, f⟩ ⟨T, f'⟩ w
      cases hC with
      | base => exact Or.inr (Or.inr (Or.inr ⟨rfl, rfl, fn, t2, t1, todo, rfl, rfl, hS, hR⟩))
      | cons hca hcr =>
        obtain ⟨fn', t2', t1', todo', e2, e1, hS', hR', hT'⟩ := hca.finish v
        refine Lock.both (G_return hf' r2) (G_return hf r1) ?_
        rw [e2, e1]
        exact ST.norm hS' hR' hT' (Or.inl rfl) hcr
      | ext x y hca hcr => exact Lock.both (G_return hf' r2) (G_return hf r1) (ST.post x y v _ _ (Or.inl ⟨rfl, rfl⟩) hca hcr)
  | pre x y todo ht hca hcr =>
    rcases ht with rfl | rfl | rfl
    · exact Or.inr (Or.inr (Or.inl ⟨_, _, _, _, w, G_seq _ _, ST.pre x y _ (Or.inr (Or.inl rfl)) hca hcr, Or.inr ⟨rfl, rfl, rfl⟩⟩))
    · exact Or.inr (Or.inr (Or.inl ⟨_, _, _, _, w, G_region _ _, ST.pre x y _ (Or.inr (Or.inr rfl)) hca hcr, Or.inr ⟨rfl, rfl, rfl⟩⟩))
    · obtain ⟨fk, ck, hfk, hfk', hbk, htk, _, hnk⟩ := sit.hS k sit.hk
      refine Or.inr (Or.inr (Or.inl ⟨fram k (#[l, x, y] ++ Array.replicate (fk.ntmps - 3) undef) [.code ck] .run, _, _, _, w, ?_, ST.norm sit.hk (RT.refl sit.hkF _) (tame_cons htk rfl) (Or.inl rfl) (CR.ext x y hca hcr), Or.inr ⟨?_, rfl, rfl⟩⟩))
      · rw [G_oper _ _ _ (callOp k) rfl rfl, execOp_callFunc _ (callOp k) k _ _ rfl rfl, apply_enter (callFunc_enter hfk' hbk hnk _ _), enter_fram hfk' hbk]
        have em : Array.map (fram N #[x, y, l, undef] [.inRegion #[callOp k] [0], .code .ret] .run).eval #[.tmp 2, .tmp 0, .tmp 1] = #[l, x, y] := by simp [fram, Frame.eval]
        rw [em]
        rfl
      · rw [enter_fram hfk hbk]; rfl
  | post x y v todo m ht hca hcr =>
    rcases ht with ⟨rfl, rfl⟩ | ⟨rfl, rfl⟩ | ⟨rfl, rfl⟩
    · exact Or.inr (Or.inr (Or.inl ⟨_, _, _, _, w, G_inRegion_nil _, ST.post x y v _ _ (Or.inr (Or.inl ⟨rfl, rfl⟩)) hca hcr, Or.inr ⟨rfl, rfl, rfl⟩⟩))
    · exact Or.inr (Or.inr (Or.inl ⟨_, _, _, _, w, G_ret, ST.post x y v _ _ (Or.inr (Or.inr ⟨rfl, rfl⟩)) hca hcr, Or.inr ⟨rfl, rfl, rfl⟩⟩))
    · obtain ⟨fn', t2', t1', todo', e2, e1, hS', hR', hT'⟩ := hca.finish v
      have r : (results gfn #[x, y, l, v]).run ⟨T, f'⟩ w = .ok v w := results_tmp sit.hNr _ _ _
      refine Or.inr (Or.inr (Or.inl ⟨_, _, _, _, w, G_return sit.hN r, ?_, Or.inr ⟨rfl, rfl, rfl⟩⟩))
      rw [e2, e1]
      exact ST.norm hS' hR' hT' (Or.inl rfl) hcr

inductive DC : List Frame → Prop
  | base : DC [c0]
  | cons {c : Frame} {cs : List Frame} : c.defers = [] → c.mode = .run → DC cs → DC (c :: cs)

theorem CA.dc {F2 F1 : Value} {c2 c1 : Frame} (h : CA T f S Fs F2 F1 c2 c1) : c2.defers = [] ∧ c2.mode = .run := by
  obtain ⟨fn, ops, i, r, kk, t2, t1, rfl, _⟩ := h.out
  exact ⟨rfl, rfl⟩

theorem CR.dc {cs2 cs1 : List Frame} (h : CR T f S Fs k N l base cs2 cs1) : DC cs2 := by
  induction h with
  | base => exact .base
  | cons hca _ ih => exact .cons hca.dc.1 hca.dc.2 ih
  | ext x y hca _ ih => exact .cons rfl rfl (.cons hca.dc.1 hca.dc.2 ih)

theorem DC.ne {cs : List Frame} (h : DC cs) : cs ≠ [] := by cases h <;> simp

theorem step_go {p : Program} {fr fr' : Frame} {cs cs' : List Frame} {w w' : World} (h : G p fr cs w = goTo fr' cs' w') : step p (lone fr cs w) = .next (lone fr' cs' w') := step_lone_go h
theorem step_end {p : Program} {fr : Frame} {cs : List Frame} {w w' : World} {o : Outcome} (h : G p fr cs w = .ended o w') : step p (lone fr cs w) = .ended o w' := step_lone_ended h

theorem lone_inj {fr fr' : Frame} {cs cs' : List Frame} {w w' : World} (h : lone fr cs w = lone fr' cs' w') : fr = fr' ∧ cs = cs' ∧ w = w' := by
  simp only [lone, Machine.mk.injEq] at h
  have h2 := h.2.1
  simp at h2
  exact ⟨h2.1, h2.2, h.1⟩

theorem G_panicking {p : Program} {fr c : Frame} {cs : List Frame} {w : World} {chain : List PanicEntry} (hm : fr.mode = .panicking chain) (hd : fr.defers = []) :
    (∃ o w', G p fr (c :: cs) w = .ended o w') ∨ G p fr (c :: cs) w = goTo (c.raise chain) cs w := by
  cases hc : fr.catches p with
  | true => left; simp [G, stepG, unwind, hm, hd, hc]
  | false => right; simp [G, goTo, stepG, unwind, hm, hd, hc]

theorem G_panicking_nil {p : Program} {fr : Frame} {cs : List Frame} {w : World} {chain : List PanicEntry} (hm : fr.mode = .panicking chain) (hd : fr.defers = [{ target := .nil, args := #[] }]) :
    ∃ o w', G p fr cs w = .ended o w' := by
  simp [G, stepG, unwind, hm, hd, callDeferred]

theorem doomed {q : Program} {frE : Frame} {wE : World} (hE : frE.mode = .returning) : ∀ n fr cs w chain, fr.mode = .panicking chain → ((fr.defers = [] ∧ DC cs) ∨ fr.defers = [{ target := .nil, args := #[] }]) → runN q n (lone fr cs w) ≠ .next (lone frE [c0] wE) := by
  intro n
  induction n with
  | zero =>
    intro fr cs w chain hm _ h
    simp only [runN, Stepped.next.injEq] at h
    have := (lone_inj h).1
    rw [this, hE] at hm
    cases hm
  | succ n ih =>
    intro fr cs w chain hm hd h
    simp only [runN] at h
    rcases hd with ⟨hd, hdc⟩ | hd
    · cases hdc with
      | base =>
        rcases G_panicking (p := q) (c := c0) (cs := []) (w := w) hm hd with ⟨o, w', e⟩ | e
        · rw [step_end e] at h; cases h
        · rw [step_go e] at h
          exact ih _ _ _ chain rfl (Or.inr rfl) h
      | cons hc1 hc2 hdc =>
        next c cs =>
        rcases G_panicking (p := q) (c := c) (cs := cs) (w := w) hm hd with ⟨o, w', e⟩ | e
        · rw [step_end e] at h; cases h
        · rw [step_go e] at h
          exact ih _ _ _ chain (by simp [Frame.raise, hc2]) (Or.inl ⟨by simp [Frame.raise, hc1, hc2], hdc⟩) h
    · obtain ⟨o, w', e⟩ := G_panicking_nil (p := q) (cs := cs) (w := w) hm hd
      rw [step_end e] at h; cases h

theorem G_c0 {q : Program} {w : World} : ∃ o w', G q c0 [] w = .ended o w' := by
  simp [G, stepG, stepG.exec, c0]

/-- THE SECOND RUN's WAY IS THE FIRST ONE's. -/
theorem sim (sit : Sit T f f' S Fs k N gfn) {frE : Frame} {wE : World} (hE : frE.mode = .returning) : ∀ n fr2 cs2 fr1 cs1 w, ST T f S Fs k N l base fr2 cs2 fr1 cs1 → runN ⟨T, f'⟩ n (lone fr2 cs2 w) = .next (lone frE [c0] wE) →
    ∃ fn t2 t1 todo, frE = fram fn t2 todo .returning ∧ S fn = true ∧ RT (Fs fn) (V2 N l) (V1 k l) t2 t1 ∧ Steps ⟨T, f⟩ (lone fr1 cs1 w) (lone (fram fn t1 todo .returning) base wE) := by
  intro n
  induction n with
  | zero =>
    intro fr2 cs2 fr1 cs1 w hst h
    simp only [runN, Stepped.next.injEq] at h
    obtain ⟨e1, e2, e3⟩ := lone_inj h
    subst e1 e3
    cases hst with
    | norm hS hR hT hm hC =>
      rcases hm with rfl | rfl
      · cases hE
      · cases hC with
        | base => exact ⟨_, _, _, _, rfl, hS, hR, Steps.refl _ _⟩
        | cons hca hcr => cases e2; exact absurd rfl hcr.dc.ne
        | ext x y hca hcr => cases e2
    | pre x y todo ht hca hcr => cases e2; exact absurd rfl hcr.dc.ne
    | post x y v todo m ht hca hcr => cases e2; exact absurd rfl hcr.dc.ne
  | succ n ih =>
    intro fr2 cs2 fr1 cs1 w hst h
    simp only [runN] at h
    have hdc : DC cs2 := by
      cases hst with
      | norm _ _ _ _ hC => exact hC.dc
      | pre _ _ _ _ hca hcr => exact .cons hca.dc.1 hca.dc.2 hcr.dc
      | post _ _ _ _ _ _ hca hcr => exact .cons hca.dc.1 hca.dc.2 hcr.dc
    rcases lock sit w hst with ⟨o, w', e⟩ | ⟨chain, w', e, fn, t, todo, rfl⟩ | ⟨fr2', cs2', fr1', cs1', w', e, hst', h1⟩ | ⟨rfl, rfl, fn, t2, t1, todo, rfl, rfl, hS, hR⟩
    · rw [step_end e] at h; cases h
    · rw [step_go e] at h
      exact absurd h (doomed hE n _ _ _ chain rfl (Or.inl ⟨rfl, hdc⟩))
    · rw [step_go e] at h
      obtain ⟨fn, t2, t1, todo, a, b, c, d⟩ := ih _ _ _ _ _ hst' h
      refine ⟨fn, t2, t1, todo, a, b, c, ?_⟩
      rcases h1 with h1 | ⟨rfl, rfl, rfl⟩
      · exact Steps.head (step_go h1) d
      · exact d
    · obtain ⟨g, c, hf, hf', hb, _, hres, _⟩ := sit.hS fn hS
      obtain ⟨v, r2, _⟩ := results_ok hres hR ⟨T, f⟩ ⟨T, f'⟩ w
      have e := G_return (p := ⟨T, f'⟩) (todo := todo) (c := c0) (cs := []) hf' r2
      rw [step_go e] at h
      cases n with
      | zero =>
        simp only [runN, Stepped.next.injEq] at h
        have := (lone_inj h).2.1
        cases this
      | succ n =>
        simp only [runN] at h
        obtain ⟨o, w', e'⟩ := G_c0 (q := ⟨T, f'⟩) (w := w)
        have e0 : c0.finish v = c0 := rfl
        rw [e0, step_end e'] at h
        cases h

/-- THE CONTRACT, HANDED OVER. -/
theorem calls_swap (sit : Sit T f f' S Fs k N gfn) {g : FuncId} (hg : S g = true) {args2 args1 : Array Value} (hsz : args1.size = args2.size) (hargs : ∀ n, RT (Fs g) (V2 N l) (V1 k l) (args2 ++ Array.replicate n undef) (args1 ++ Array.replicate n undef))
    {w : World} {R : Ending → World → Prop} (hR : ∀ e w', R e w' → ∃ v, e = .returned v) (h : Calls ⟨T, f'⟩ g args2 w R) : Calls ⟨T, f⟩ g args1 w R := by
  intro cs
  obtain ⟨e, w', fr, hr, hc, hfn, hl⟩ := h [c0]
  obtain ⟨v, rfl⟩ := hR e w' hr
  obtain ⟨n, hn⟩ := hc
  obtain ⟨hm, hd, hk', fnr, hf, hres⟩ := hl
  obtain ⟨gf, c, hgf, hgf', hb, ht, hrs, _⟩ := sit.hS g hg
  rw [enter_fram hgf' hb] at hn
  have hst : ST T f S Fs k N l cs (fram g (args2 ++ Array.replicate (gf.ntmps - args2.size) undef) [.code c] .run) [c0] (fram g (args1 ++ Array.replicate (gf.ntmps - args2.size) undef) [.code c] .run) cs :=
    ST.norm hg (hargs _) (tame_cons ht rfl) (Or.inl rfl) CR.base
  obtain ⟨fn, t2, t1, todo, rfl, hS', hRT, hs⟩ := sim sit hm n _ _ _ _ _ hst hn
  have hfn' : fn = g := hfn
  subst hfn'
  have e2 : fnr = gf := by
    have : f'[fn]? = some fnr := hf
    rw [hgf'] at this
    cases this; rfl
  subst e2
  obtain ⟨v', r2, r1⟩ := results_ok hrs hRT ⟨T, f⟩ ⟨T, f'⟩ w'
  have e3 : v' = v := by
    have : (results fnr t2).run ⟨T, f'⟩ w' = .ok v w' := hres
    rw [r2] at this
    cases this; rfl
  subst e3
  refine ⟨_, w', fram fn t1 todo .returning, hr, ?_, rfl, rfl, rfl, rfl, fnr, hgf, r1⟩
  rw [enter_fram hgf hb, hsz]
  exact hs

#print axioms calls_swap
end Go.Proofs.YthocnlalahknjaaGreat
