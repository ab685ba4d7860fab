/-
  The operations of slices.SortFunc's family ask for nothing of the program but its tables. Conditions: none.
-/
import Derived.Test.YtdbjfginigekbaaSim1
namespace Go.Proofs.Ytdbjfginigekbaa
open Go

section ops
variable {T : Tables} {f f' : Array Func}

theorem tab_pure {α : Type} (a : α) : Tab ⟨T, f⟩ ⟨T, f'⟩ (pure a : Sem α) := trivial
theorem tab_stuck {α : Type} (s : String) : Tab ⟨T, f⟩ ⟨T, f'⟩ (stuck s : Sem α) := trivial
theorem tab_unsupported {α : Type} (u : Unsupported) : Tab ⟨T, f⟩ ⟨T, f'⟩ (unsupported u : Sem α) := trivial
theorem tab_goPanic {α : Type} (v : Value) : Tab ⟨T, f⟩ ⟨T, f'⟩ (goPanic v : Sem α) := trivial
theorem tab_choose (q : Question) : Tab ⟨T, f⟩ ⟨T, f'⟩ (choose q) := fun _ => trivial
theorem tab_load (a : Addr) (m : Mode) : Tab ⟨T, f⟩ ⟨T, f'⟩ (load a m) := fun _ => trivial
theorem tab_store (a : Addr) (v : Value) (m : Mode) : Tab ⟨T, f⟩ ⟨T, f'⟩ (store a v m) := trivial
theorem tab_newObj (o : Obj) : Tab ⟨T, f⟩ ⟨T, f'⟩ (newObj o) := fun _ => trivial
theorem tab_shape (r : Nat) : Tab ⟨T, f⟩ ⟨T, f'⟩ (shape r) := fun _ => trivial
theorem tab_frozen (a : Addr) : Tab ⟨T, f⟩ ⟨T, f'⟩ (frozen a) := fun _ => trivial
theorem tab_freeze (a : Addr) (n : Nat) : Tab ⟨T, f⟩ ⟨T, f'⟩ (freeze a n) := trivial
theorem tab_getObj (r : Nat) : Tab ⟨T, f⟩ ⟨T, f'⟩ (getObj r) := fun _ => trivial

theorem tab_program {α : Type} {k : Program → Sem α} (h : k ⟨T, f⟩ = k ⟨T, f'⟩) (h' : Tab ⟨T, f⟩ ⟨T, f'⟩ (k ⟨T, f⟩)) : Tab ⟨T, f⟩ ⟨T, f'⟩ (program >>= k) := ⟨h, h'⟩

theorem tab_typeInfo (t : TypeId) : Tab ⟨T, f⟩ ⟨T, f'⟩ (typeInfo t) := tab_program rfl (by split <;> trivial)
theorem tab_underlying (t : TypeId) : Tab ⟨T, f⟩ ⟨T, f'⟩ (underlying t) := tab_program rfl (by split <;> trivial)
theorem tab_sizeOf (t : TypeId) : Tab ⟨T, f⟩ ⟨T, f'⟩ (Go.sizeOf t) := (tab_typeInfo t).bind fun _ => trivial
theorem tab_zeroValue (t : TypeId) : Tab ⟨T, f⟩ ⟨T, f'⟩ (zeroValue t) := (tab_typeInfo t).bind fun _ => by split <;> trivial
theorem tab_isAgg (t : TypeId) : Tab ⟨T, f⟩ ⟨T, f'⟩ (isAgg t) := (tab_underlying t).bind fun _ => by split <;> trivial

theorem tab_loadCellsFrom (a : Addr) : ∀ n i acc, Tab ⟨T, f⟩ ⟨T, f'⟩ (loadCellsFrom a i n acc) := by
  intro n
  induction n with
  | zero => intro i acc; trivial
  | succ n ih => intro i acc; exact (tab_load _ _).bind fun _ => ih _ _

theorem tab_storeCells (a : Addr) : ∀ vs i, Tab ⟨T, f⟩ ⟨T, f'⟩ (storeCells a vs i) := by
  intro vs
  induction vs with
  | nil => intro i; trivial
  | cons v vs ih => intro i; exact (tab_store _ _ _).bind fun _ => ih _

theorem tab_loadVar (t : TypeId) (a : Addr) : Tab ⟨T, f⟩ ⟨T, f'⟩ (loadVar t a) := by
  refine (tab_isAgg t).bind fun b => ?_
  split
  · exact (tab_sizeOf t).bind fun _ => (tab_loadCellsFrom _ _ _ _).bind fun _ => trivial
  · exact tab_load _ _

theorem tab_storeVar (t : TypeId) (a : Addr) (v : Value) : Tab ⟨T, f⟩ ⟨T, f'⟩ (storeVar t a v) := by
  refine (tab_sizeOf t).bind fun b => ?_
  split
  · exact Tab.bind (tab_stuck _) fun _ => tab_storeCells _ _ _
  · exact tab_storeCells _ _ _

theorem tab_runtimePanic_error {α : Type} (s : String) : Tab ⟨T, f⟩ ⟨T, f'⟩ (runtimePanic (.error s) : Sem α) := tab_program rfl trivial
theorem tab_runtimePanic_nil {α : Type} : Tab ⟨T, f⟩ ⟨T, f'⟩ (runtimePanic .nilDeref : Sem α) := tab_program rfl trivial
theorem tab_boundsPanic {α : Type} (k : IntKind) (x y : Int) (c : BoundsCode) : Tab ⟨T, f⟩ ⟨T, f'⟩ (boundsPanic k x y c : Sem α) := by
  have h : ∀ s, Tab ⟨T, f⟩ ⟨T, f'⟩ (runtimePanic (.bounds (IntKind.i64.wrap x) y s c) : Sem α) := fun s => tab_program rfl trivial
  unfold boundsPanic
  dsimp only
  split
  · exact fun _ => h _
  · exact h _

theorem tab_asIntOf (v : Value) : Tab ⟨T, f⟩ ⟨T, f'⟩ (asIntOf v) := by unfold asIntOf; split <;> trivial
theorem tab_asInt (v : Value) : Tab ⟨T, f⟩ ⟨T, f'⟩ (asInt v) := (tab_asIntOf v).bind fun _ => trivial
theorem tab_asBool (v : Value) : Tab ⟨T, f⟩ ⟨T, f'⟩ (asBool v) := by unfold asBool; split <;> trivial
theorem tab_sureAddr (v : Value) : Tab ⟨T, f⟩ ⟨T, f'⟩ (Instr.sureAddr v) := by unfold Instr.sureAddr; split <;> trivial

theorem tab_loadAt (t : TypeId) (v : Value) : Tab ⟨T, f⟩ ⟨T, f'⟩ (Instr.loadAt t v) := (tab_sureAddr v).bind fun _ => tab_loadVar _ _
theorem tab_storeAt (t : TypeId) (a v : Value) : Tab ⟨T, f⟩ ⟨T, f'⟩ (Instr.storeAt t a v) := (tab_sureAddr a).bind fun _ => tab_storeVar _ _ _

theorem tab_indexAt (t : TypeId) (x i : Value) : Tab ⟨T, f⟩ ⟨T, f'⟩ (Instr.indexAt t x i) := by
  refine (tab_asIntOf i).bind fun ki => ?_
  obtain ⟨k, i⟩ := ki
  refine (tab_underlying t).bind fun d => ?_
  have J : ∀ (base : Option Addr) (len : Nat) (elem : TypeId), Tab ⟨T, f⟩ ⟨T, f'⟩ (do
        let d ← underlying t
        match base with
        | some a =>
          if 0 ≤ i ∧ i < (len : Int) then do
            let s ← Go.sizeOf elem
            pure (Value.pointer (some (a.add (i.toNat * s))))
          else if (decide (len ≤ 1) && match d with | .array _ _ => true | _ => false) = true then
            unsupported (Unsupported.noEntry "op/indexAddr.an index out of range at an array of length 0 or 1 (ledger 616)")
          else boundsPanic k i len .index
        | none => boundsPanic k i 0 .index) := by
    intro base len elem
    refine (tab_underlying t).bind fun d => ?_
    generalize (decide (len ≤ 1) && match d with | .array _ _ => true | _ => false) = tiny
    split
    · split
      · exact (tab_sizeOf _).bind fun _ => trivial
      · split
        · trivial
        · exact tab_boundsPanic _ _ _ _
    · exact tab_boundsPanic _ _ _ _
  dsimp only
  split
  · exact (tab_sureAddr _).bind fun _ => Tab.bind (tab_pure _) fun r => J r.1 r.2.1 r.2.2
  · exact Tab.bind (tab_pure _) fun r => J r.1 r.2.1 r.2.2
  · exact Tab.bind (tab_stuck _) fun r => J r.1 r.2.1 r.2.2

theorem tab_part (t : TypeId) (cs : Array Value) (n : Nat) : Tab ⟨T, f⟩ ⟨T, f'⟩ (part t cs n) := by
  refine (tab_isAgg t).bind fun b => ?_
  split
  · exact (tab_sizeOf t).bind fun _ => trivial
  · split <;> trivial

theorem tab_index (t : TypeId) (x i : Value) : Tab ⟨T, f⟩ ⟨T, f'⟩ (Instr.index t x i) := by
  refine (tab_asIntOf i).bind fun ki => ?_
  obtain ⟨k, i⟩ := ki
  refine (tab_underlying t).bind fun d => ?_
  split
  · split
    · exact (tab_sizeOf _).bind fun _ => tab_part _ _ _
    · exact tab_boundsPanic _ _ _ _
  · split
    · trivial
    · exact tab_boundsPanic _ _ _ _
  · trivial

theorem tab_extract (v : Value) (n : Nat) : Tab ⟨T, f⟩ ⟨T, f'⟩ (Instr.extract v n) := by
  unfold Instr.extract
  split
  · split <;> trivial
  · trivial

theorem tab_alloc (t : TypeId) : Tab ⟨T, f⟩ ⟨T, f'⟩ (Instr.alloc t true (.tuple #[])) := by
  refine (tab_zeroValue t).bind fun z => ?_
  exact Tab.bind (Tab.bind (tab_newObj _) fun _ => trivial) fun _ => trivial

theorem tab_len (ts : Array TypeId) (t : TypeId) (args : Array Value) : Tab ⟨T, f⟩ ⟨T, f'⟩ (Builtin.len_ ts t args) := by
  unfold Builtin.len_
  split
  · refine (tab_underlying _).bind fun d => ?_
    split <;> first | trivial | skip
    · refine (tab_underlying _).bind fun d => ?_
      split <;> trivial
    · refine (tab_getObj _).bind fun d => ?_
      split <;> trivial
    · refine (tab_getObj _).bind fun d => ?_
      split <;> trivial
  · trivial

theorem tab_noView (a : Addr) : Tab ⟨T, f⟩ ⟨T, f'⟩ (noView a) := by
  refine Tab.bind ?_ fun b => by split <;> trivial
  refine (tab_shape _).bind fun s => ?_
  split
  · trivial
  · refine (tab_getObj _).bind fun d => ?_
    split <;> trivial

theorem tab_viewAt (r : Nat) : Tab ⟨T, f⟩ ⟨T, f'⟩ (viewAt r) := by
  refine (tab_shape _).bind fun s => ?_
  split
  · trivial
  · refine (tab_getObj _).bind fun d => ?_
    split <;> trivial

theorem tab_numberAt (r : Nat) : Tab ⟨T, f⟩ ⟨T, f'⟩ (numberAt r) := by
  refine (tab_shape _).bind fun s => ?_
  split
  · trivial
  · refine (tab_getObj _).bind fun d => ?_
    split <;> trivial

theorem tab_behindNumber (a : Addr) : Tab ⟨T, f⟩ ⟨T, f'⟩ (behindNumber a) := (tab_numberAt _).bind fun _ => trivial

theorem tab_byteOf (a : Addr) : Tab ⟨T, f⟩ ⟨T, f'⟩ (byteOf a) := by
  unfold byteOf
  split
  · trivial
  · refine tab_program ?_ ?_
    · simp only [byteOfCell_same T f f']; rfl
    · refine (tab_noView a).bind fun _ => ?_
      refine (tab_shape _).bind fun s => ?_
      split
      · dsimp only
        split
        · trivial
        · split <;> trivial
      · trivial

theorem tab_twoPlaces (a b : Addr) : Tab ⟨T, f⟩ ⟨T, f'⟩ (Op.twoPlaces a b) := by
  refine tab_program rfl ?_
  split
  · exact Tab.bind (tab_unsupported _) fun _ => (tab_byteOf a).bind fun _ => (tab_byteOf b).bind fun _ => trivial
  · exact (tab_byteOf a).bind fun _ => (tab_byteOf b).bind fun _ => trivial

theorem tab_addrSub (k : IntKind) (a b : Addr) : Tab ⟨T, f⟩ ⟨T, f'⟩ (Op.addrSub k a b) := (tab_twoPlaces a b).bind fun _ => trivial
theorem tab_addrCmp (o : BinOp) (a b : Addr) : Tab ⟨T, f⟩ ⟨T, f'⟩ (Op.addrCmp o a b) := (tab_twoPlaces a b).bind fun _ => by dsimp only; split <;> trivial
theorem tab_addrMod (k : IntKind) (a : Addr) (n : Int) : Tab ⟨T, f⟩ ⟨T, f'⟩ (Op.addrMod k a n) := by
  refine (tab_shape _).bind fun s => ?_
  split
  · refine (tab_typeInfo _).bind fun i => ?_
    dsimp only
    split
    · exact Tab.bind (tab_unsupported _) fun _ => (tab_byteOf a).bind fun _ => trivial
    · exact (tab_byteOf a).bind fun _ => trivial
  · trivial

theorem cellAtBytes_same (e : TypeId) (n off : Nat) (b : Int) : cellAtBytes ⟨T, f⟩ (Program.depth ⟨T, f⟩) e n off b = cellAtBytes ⟨T, f'⟩ (Program.depth ⟨T, f'⟩) e n off b := by
  simp only [cellAtBytes, byteOfCell_same T f f', cellOfByte_same T f f']; rfl

theorem tab_unsafeAdd (t : TypeId) (x y : Value) : Tab ⟨T, f⟩ ⟨T, f'⟩ (Builtin.unsafeAdd_ #[] t #[x, y]) := by
  have P1 : ∀ (a : Addr) (n : Int), Tab ⟨T, f⟩ ⟨T, f'⟩ (do
      let some (e, cells) ← shape a.block | unsupported (.unsafePointer "Add")
      let p ← program
      match cellAtBytes p p.depth e (cells / p.cellsOf e) a.off n with
      | some off => pure (Value.pointer (some { a with off }))
      | none => unsupported (.unsafePointer "Add")) := by
    intro a n
    refine (tab_shape _).bind fun s => ?_
    split
    · refine tab_program ?_ ?_
      · show (match cellAtBytes ⟨T, f⟩ (Program.depth ⟨T, f⟩) _ _ a.off n with | some off => _ | none => _) = _
        rw [cellAtBytes_same (f := f) (f' := f')]; rfl
      · split <;> trivial
    · trivial
  cases x <;> try exact trivial
  next ptr =>
    show Tab _ _ (asInt y >>= _)
    refine (tab_asInt _).bind fun n => ?_
    dsimp only
    split
    · split
      · refine (tab_viewAt _).bind fun b => ?_
        split <;> trivial
      · trivial
    · split
      · exact Tab.bind (tab_unsupported _) fun _ => by
          split
          · exact P1 _ _
          · trivial
      · split
        · exact P1 _ _
        · trivial

theorem tab_movedNumber (t : TypeId) (x y : Value) : Tab ⟨T, f⟩ ⟨T, f'⟩ (movedNumber t x y) := by
  have J : Tab ⟨T, f⟩ ⟨T, f'⟩ (do
      let .pointer (some n) := x | Builtin.unsafeAdd_ #[] t #[x, y]
      let (a, lost) ← behindNumber n
      match ← Builtin.unsafeAdd_ #[] t #[.pointer (some a), y] with
      | .pointer (some b) => asNumber b lost
      | v => pure v) := by
    split
    · refine (tab_behindNumber _).bind fun r => ?_
      refine (tab_unsafeAdd _ _ _).bind fun v => ?_
      split
      · exact Tab.bind (tab_newObj _) fun _ => trivial
      · trivial
    · exact tab_unsafeAdd _ _ _
  refine (tab_underlying t).bind fun d => ?_
  dsimp only
  split
  · exact Tab.bind (tab_unsupported _) fun _ => J
  · exact J

theorem tab_movedPointer (t : TypeId) (x y : Value) : Tab ⟨T, f⟩ ⟨T, f'⟩ (movedPointer t x y) := by
  unfold movedPointer
  split
  · refine (tab_numberAt _).bind fun d => ?_
    split
    · exact Tab.bind (tab_unsupported _) fun _ => tab_unsafeAdd _ _ _
    · exact tab_unsafeAdd _ _ _
  · exact tab_unsafeAdd _ _ _

theorem tab_floatArith (op : BinOp) (k : FloatKind) (x y : Nat) : Tab ⟨T, f⟩ ⟨T, f'⟩ (Op.floatArith op k x y) := by
  have J : ∀ r : Option Nat, Tab ⟨T, f⟩ ⟨T, f'⟩ (match r with | some r => pure (Value.float k r) | none => do pure (Value.float k (← choose (.nanBits k x y)))) := by
    intro r
    split
    · trivial
    · exact fun _ => trivial
  cases op <;> first | exact J _ | exact trivial

theorem tab_floatCmp (op : BinOp) (k : FloatKind) (x y : Nat) : Tab ⟨T, f⟩ ⟨T, f'⟩ (Op.floatCmp op k x y) := by
  cases op <;> exact trivial

theorem tab_floatToFloat (k : FloatKind) (x : Nat) (k' : FloatKind) : Tab ⟨T, f⟩ ⟨T, f'⟩ (Conv.floatToFloat k x k') := by
  unfold Conv.floatToFloat
  split
  · trivial
  · split
    · exact fun _ => trivial
    · trivial
    · dsimp only
      split
      · exact fun _ => trivial
      · trivial

theorem tab_arith (op : BinOp) (k : FloatKind) (x y : Nat) : Tab ⟨T, f⟩ ⟨T, f'⟩ (Op.Complex.arith op k x y) := (tab_floatArith op k x y).bind fun v => by split <;> trivial
theorem tab_cmp (op : BinOp) (k : FloatKind) (x y : Nat) : Tab ⟨T, f⟩ ⟨T, f'⟩ (Op.Complex.cmp op k x y) := (tab_floatCmp op k x y).bind fun v => tab_asBool v
theorem tab_conv (k : FloatKind) (x : Nat) (k' : FloatKind) : Tab ⟨T, f⟩ ⟨T, f'⟩ (Op.Complex.conv k x k') := by
  unfold Op.Complex.conv
  split
  · trivial
  · exact (tab_floatToFloat _ _ _).bind fun v => by split <;> trivial

theorem tab_product (a b c d : Nat) : Tab ⟨T, f⟩ ⟨T, f'⟩ (Op.Complex.product a b c d) :=
  (tab_arith _ _ _ _).bind fun _ => (tab_arith _ _ _ _).bind fun _ => (tab_arith _ _ _ _).bind fun _ => (tab_arith _ _ _ _).bind fun _ => (tab_arith _ _ _ _).bind fun _ => (tab_arith _ _ _ _).bind fun _ => trivial

theorem tab_corrected (s a b c d : Nat) : Tab ⟨T, f⟩ ⟨T, f'⟩ (Op.Complex.corrected s a b c d) :=
  (tab_arith _ _ _ _).bind fun _ => (tab_arith _ _ _ _).bind fun _ => (tab_arith _ _ _ _).bind fun _ => (tab_arith _ _ _ _).bind fun _ => (tab_arith _ _ _ _).bind fun _ => (tab_arith _ _ _ _).bind fun _ => (tab_arith _ _ _ _).bind fun _ => (tab_arith _ _ _ _).bind fun _ => trivial

theorem tab_quotient (a b c d : Nat) : Tab ⟨T, f⟩ ⟨T, f'⟩ (Op.Complex.quotient a b c d) := by
  have E : ∀ (e f₁ : Nat), Tab ⟨T, f⟩ ⟨T, f'⟩ (do
      let zero := (← Op.Complex.cmp .eql .f64 c 0) && (← Op.Complex.cmp .eql .f64 d 0)
      if !(Op.Complex.isNaN e && Op.Complex.isNaN f₁) then pure (e, f₁)
      else if zero && (!Op.Complex.isNaN a || !Op.Complex.isNaN b) then
        pure (← Op.Complex.mul (Op.Complex.copysign Op.Complex.inf c) a, ← Op.Complex.mul (Op.Complex.copysign Op.Complex.inf c) b)
      else if (Op.Complex.isInf a || Op.Complex.isInf b) && Op.Complex.isFinite c && Op.Complex.isFinite d then
        Op.Complex.corrected Op.Complex.inf (Op.Complex.inf2one a) (Op.Complex.inf2one b) c d
      else if (Op.Complex.isInf c || Op.Complex.isInf d) && Op.Complex.isFinite a && Op.Complex.isFinite b then
        Op.Complex.corrected 0 a b (Op.Complex.inf2one c) (Op.Complex.inf2one d)
      else pure (e, f₁)) := by
    intro e f₁
    refine (tab_cmp _ _ _ _).bind fun _ => (tab_cmp _ _ _ _).bind fun _ => ?_
    dsimp only
    split
    · trivial
    · split
      · exact (tab_arith _ _ _ _).bind fun _ => (tab_arith _ _ _ _).bind fun _ => trivial
      · split
        · exact tab_corrected _ _ _ _ _
        · split
          · exact tab_corrected _ _ _ _ _
          · trivial
  unfold Op.Complex.quotient
  refine (tab_cmp _ _ _ _).bind fun g => ?_
  dsimp only
  split
  · refine (tab_arith _ _ _ _).bind fun _ => (tab_arith _ _ _ _).bind fun _ => (tab_arith _ _ _ _).bind fun _ => (tab_arith _ _ _ _).bind fun _ => (tab_arith _ _ _ _).bind fun _ => (tab_arith _ _ _ _).bind fun _ => (tab_arith _ _ _ _).bind fun _ => (tab_arith _ _ _ _).bind fun _ => (tab_arith _ _ _ _).bind fun _ => ?_
    exact Tab.bind (tab_pure _) fun r => E r.1 r.2
  · refine (tab_arith _ _ _ _).bind fun _ => (tab_arith _ _ _ _).bind fun _ => (tab_arith _ _ _ _).bind fun _ => (tab_arith _ _ _ _).bind fun _ => (tab_arith _ _ _ _).bind fun _ => (tab_arith _ _ _ _).bind fun _ => (tab_arith _ _ _ _).bind fun _ => (tab_arith _ _ _ _).bind fun _ => (tab_arith _ _ _ _).bind fun _ => ?_
    exact Tab.bind (tab_pure _) fun r => E r.1 r.2

theorem tab_complexOp (op : BinOp) (k : FloatKind) (a b c d : Nat) : Tab ⟨T, f⟩ ⟨T, f'⟩ (Op.complexOp op k a b c d) := by
  have M : ∀ op' : BinOp, Tab ⟨T, f⟩ ⟨T, f'⟩ (do
      let (a, b, c, d) := (← Op.Complex.conv k a .f64, ← Op.Complex.conv k b .f64, ← Op.Complex.conv k c .f64, ← Op.Complex.conv k d .f64)
      let (e, f) ← if op' == .mul then Op.Complex.product a b c d else Op.Complex.quotient a b c d
      pure (Value.complex k (← Op.Complex.conv .f64 e k) (← Op.Complex.conv .f64 f k))) := by
    intro op'
    refine (tab_conv _ _ _).bind fun _ => (tab_conv _ _ _).bind fun _ => (tab_conv _ _ _).bind fun _ => (tab_conv _ _ _).bind fun _ => ?_
    dsimp only
    split
    · exact (tab_product _ _ _ _).bind fun _ => (tab_conv _ _ _).bind fun _ => (tab_conv _ _ _).bind fun _ => trivial
    · exact (tab_quotient _ _ _ _).bind fun _ => (tab_conv _ _ _).bind fun _ => (tab_conv _ _ _).bind fun _ => trivial
  cases op <;> first | exact trivial | exact M _ | exact (tab_arith _ _ _ _).bind fun _ => (tab_arith _ _ _ _).bind fun _ => trivial | exact (tab_cmp _ _ _ _).bind fun _ => (tab_cmp _ _ _ _).bind fun _ => trivial

theorem tab_stringOp (op : BinOp) (x y : ByteArray) : Tab ⟨T, f⟩ ⟨T, f'⟩ (Op.stringOp op x y) := by
  unfold Op.stringOp
  cases op <;> first | exact trivial | (dsimp only; split <;> exact trivial)

theorem tab_intArith (op : BinOp) (k : IntKind) (x y : Int) : Tab ⟨T, f⟩ ⟨T, f'⟩ (Op.intArith op k x y) := by cases op <;> exact trivial
theorem tab_intBits (op : BinOp) (k : IntKind) (x y : Int) : Tab ⟨T, f⟩ ⟨T, f'⟩ (Op.intBits op k x y) := by cases op <;> exact trivial
theorem tab_intCmp (op : BinOp) (x y : Int) : Tab ⟨T, f⟩ ⟨T, f'⟩ (Op.intCmp op x y) := by cases op <;> exact trivial
theorem tab_intDiv (op : BinOp) (k : IntKind) (x y : Int) : Tab ⟨T, f⟩ ⟨T, f'⟩ (Op.intDiv op k x y) := by
  unfold Op.intDiv
  split
  · exact tab_runtimePanic_error _
  · cases op <;> exact trivial
theorem tab_shift (op : BinOp) (k k' : IntKind) (x y : Int) : Tab ⟨T, f⟩ ⟨T, f'⟩ (Op.shift op k x k' y) := by
  unfold Op.shift
  split
  · exact tab_runtimePanic_error _
  · cases op <;> exact trivial

theorem tab_binOp (op : BinOp) (t : TypeId) (x y : Value) (hop : op ≠ .eql) (hop' : op ≠ .neq) : Tab ⟨T, f⟩ ⟨T, f'⟩ (binOp op t x y) := by
  unfold binOp
  split
  all_goals first
    | exact tab_shift _ _ _ _ _
    | exact tab_stringOp _ _ _
    | exact absurd rfl hop
    | exact absurd rfl hop'
    | exact trivial
    | exact tab_movedNumber _ _ _
    | exact (tab_behindNumber _).bind fun _ => (tab_behindNumber _).bind fun _ => tab_addrSub _ _ _
    | exact (tab_behindNumber _).bind fun _ => (tab_behindNumber _).bind fun _ => tab_addrCmp _ _ _
    | exact (tab_behindNumber _).bind fun _ => tab_addrMod _ _ _
    | skip
  · split
    · trivial
    · split
      · exact tab_intArith _ _ _ _
      · exact tab_intArith _ _ _ _
      · exact tab_intArith _ _ _ _
      · exact tab_intDiv _ _ _ _
      · exact tab_intDiv _ _ _ _
      · exact tab_intBits _ _ _ _
      · exact tab_intBits _ _ _ _
      · exact tab_intBits _ _ _ _
      · exact tab_intBits _ _ _ _
      · exact tab_intCmp _ _ _
  · split
    · trivial
    · split
      · exact tab_floatArith _ _ _ _
      · exact tab_floatArith _ _ _ _
      · exact tab_floatArith _ _ _ _
      · exact tab_floatArith _ _ _ _
      · exact tab_floatCmp _ _ _ _
  · split
    · trivial
    · exact tab_complexOp _ _ _ _ _ _
  · refine (tab_underlying _).bind fun d => ?_
    split
    · exact tab_movedPointer _ _ _
    · exact tab_movedNumber _ _ _

theorem tab_underlying_bind {α : Type} {t : TypeId} {d : TypeDesc} {k : TypeDesc → Sem α} (h : Program.underlying ⟨T, f⟩ t = some d) (hk : Tab ⟨T, f⟩ ⟨T, f'⟩ (k d)) : Tab ⟨T, f⟩ ⟨T, f'⟩ (underlying t >>= k) := by
  have e : (underlying t >>= k) = program >>= fun p => (match p.underlying t with | some d => (pure d : Sem TypeDesc) | none => stuck "no such type") >>= k := rfl
  rw [e]
  refine tab_program rfl ?_
  rw [h]
  exact hk

theorem tab_convert {src dst : TypeId} {k k' : IntKind} (x : Value) (h1 : Program.underlying ⟨T, f⟩ src = some (.int k)) (h2 : Program.underlying ⟨T, f⟩ dst = some (.int k')) : Tab ⟨T, f⟩ ⟨T, f'⟩ (convert src dst x) := by
  refine tab_underlying_bind h1 (tab_underlying_bind h2 ?_)
  cases x <;> first | exact trivial | skip
  · unfold Conv.floatToInt
    dsimp only
    split
    · split
      · trivial
      · exact fun _ => trivial
    · exact fun _ => trivial
  · next a => cases a <;> exact trivial

theorem tab_eql {t : TypeId} {k : IntKind} (x y : Value) (h : Program.underlying ⟨T, f⟩ t = some (.int k)) : Tab ⟨T, f⟩ ⟨T, f'⟩ (Op.equal t x y) := by
  show Tab _ _ (Op.equalIn (9999 + 1) t x y)
  rw [Op.equalIn]
  refine tab_underlying_bind h ?_
  split <;> first | exact trivial | contradiction | skip
  · split <;> trivial
  · refine (tab_behindNumber _).bind fun a => (tab_behindNumber _).bind fun b => ?_
    refine tab_program rfl ?_
    split
    · exact (tab_byteOf _).bind fun _ => (tab_byteOf _).bind fun _ => trivial
    · refine (tab_typeInfo _).bind fun i => ?_
      split
      · split <;> trivial
      · trivial

theorem eqGuardType_same : ∀ d t, Program.eqGuardType ⟨T, f⟩ d t = Program.eqGuardType ⟨T, f'⟩ d t := by
  intro d
  induction d with
  | zero => intro t; rfl
  | succ d ih => intro t; simp only [Program.eqGuardType, ih]; rfl

theorem tab_eqGuard_eql {t : TypeId} {k : IntKind} (op : BinOp) (hop : op = .eql ∨ op = .neq) (x y : Operand) (a b : Value) (h : Program.underlying ⟨T, f⟩ t = some (.int k)) : Tab ⟨T, f⟩ ⟨T, f'⟩ (eqGuard op t x y a b) := by
  have G : ∀ u v, Tab ⟨T, f⟩ ⟨T, f'⟩ (Op.eqGuardIn Op.maxDepth t u v) := fun u v => by
    show Tab _ _ (Op.eqGuardIn (9999 + 1) t u v)
    rw [Op.eqGuardIn]
    refine tab_underlying_bind h ?_
    exact trivial
  unfold eqGuard
  rw [if_neg (by rcases hop with rfl | rfl <;> decide)]
  clear hop
  split
  · generalize (_ || _ : Bool) = c
    split
    · trivial
    · exact (G _ _).bind fun b => by split <;> trivial
  · refine tab_program ?_ (tab_program ?_ ?_)
    · simp only [eqGuardType_same (f := f) (f' := f')]
    · simp only [eqGuardType_same (f := f) (f' := f')]; rfl
    · split
      · trivial
      · exact (G _ _).bind fun b => by split <;> trivial
  · trivial

theorem tab_eqGuard_other (op : BinOp) (t : TypeId) (x y : Operand) (a b : Value) (h : op ≠ .eql) (h' : op ≠ .neq) : Tab ⟨T, f⟩ ⟨T, f'⟩ (eqGuard op t x y a b) := by
  cases op <;> first | exact absurd rfl h | exact absurd rfl h' | exact trivial

theorem tab_followBlind : ∀ l t x, Tab ⟨T, f⟩ ⟨T, f'⟩ (followBlind l t x) := by
  intro l
  induction l with
  | nil => intro t x; trivial
  | cons s l ih =>
    intro t x
    rw [followBlind]
    refine (tab_underlying _).bind fun d => ?_
    split
    · split
      · split
        all_goals first | exact trivial | exact ih _ _ | exact (tab_part _ _ _).bind fun _ => ih _ _
      · trivial
    · trivial

theorem tab_nilAhead (name : String) : ∀ n t v, Tab ⟨T, f⟩ ⟨T, f'⟩ (nilAhead n t v name) := by
  intro n
  induction n with
  | zero => intro t v; trivial
  | succ n ih =>
    intro t v
    rw [nilAhead]
    refine (tab_typeInfo _).bind fun i => ?_
    split
    · refine (tab_followBlind _ _ _).bind fun r => ?_
      split
      · trivial
      · split
        all_goals first | exact trivial | exact ih _ _ | skip
        refine (tab_underlying _).bind fun d => ?_
        split <;> trivial
    · trivial

theorem tab_unary (op : UnOp) (x : Value) : Tab ⟨T, f⟩ ⟨T, f'⟩ (Op.unary op x) := by
  unfold Op.unary
  split <;> exact trivial

def isInt : Option TypeDesc → Bool
  | some (.int _) => true
  | _ => false

theorem isInt_out {d : Option TypeDesc} (h : isInt d = true) : ∃ k, d = some (.int k) := by
  unfold isInt at h
  split at h
  · exact ⟨_, rfl⟩
  · exact absurd h (by decide)

/-- The operations that ask for nothing but the tables. -/
def okOp (und : TypeId → Option TypeDesc) : Op → Bool
  | .move _ | .assign _ | .pick .. | .alloc _ | .load .. | .store .. | .nilCheck _ | .unOp .. | .indexAddr .. | .index .. | .extract .. => true
  | .binOp op t _ _ _ => match op with
    | .neq | .eql => isInt (und t)
    | _ => true
  | .convert s d _ => isInt (und s) && isInt (und d)
  | .call { callee := .builtin .len, .. } => true
  | _ => false

theorem tab_value {s : Sem Value} (h : Tab ⟨T, f⟩ ⟨T, f'⟩ s) : Tab ⟨T, f⟩ ⟨T, f'⟩ (do pure (Next.value (← s)) : Sem Next) := h.bind fun _ => trivial
theorem tab_skip {s : Sem Unit} (h : Tab ⟨T, f⟩ ⟨T, f'⟩ s) : Tab ⟨T, f⟩ ⟨T, f'⟩ (do s; pure Next.skip : Sem Next) := h.bind fun _ => trivial

theorem tab_execOp (ρ : Operand → Value) (o : Oper) (h : okOp (Program.underlying ⟨T, f⟩) o.op = true) : Tab ⟨T, f⟩ ⟨T, f'⟩ (execOp ρ o) := by
  obtain ⟨dst, op, type, pos, after, guard⟩ := o
  cases op <;> first | exact trivial | exact absurd h Bool.false_ne_true | skip
  case pick c a b => exact (tab_asBool _).bind fun _ => trivial
  case alloc e => exact tab_value (tab_alloc _)
  case load t a => exact tab_value (tab_loadAt _ _)
  case store t a x => exact tab_skip (tab_storeAt _ _ _)
  case nilCheck x =>
    unfold execOp
    dsimp only
    split
    · exact tab_runtimePanic_nil
    · exact tab_runtimePanic_nil
    · exact tab_runtimePanic_nil
    · split
      · exact tab_runtimePanic_nil
      · refine tab_program rfl ?_
        refine (tab_nilAhead _ _ _ _).bind fun r => ?_
        split
        · exact Tab.bind (tab_unsupported _) fun _ => trivial
        · trivial
      · trivial
    · trivial
  case unOp op t x => exact tab_value (tab_unary _ _)
  case indexAddr t x i => exact tab_value (tab_indexAt _ _ _)
  case index t x i => exact tab_value (tab_index _ _ _)
  case extract t i => exact tab_value (tab_extract _ _)
  case convert s d x =>
    simp only [okOp, Bool.and_eq_true] at h
    obtain ⟨k, h1⟩ := isInt_out h.1
    obtain ⟨k', h2⟩ := isInt_out h.2
    exact tab_value (tab_convert _ h1 h2)
  case binOp op t x y yt =>
    unfold execOp
    dsimp only
    by_cases h1 : op = .eql
    · subst h1
      obtain ⟨k, h2⟩ := isInt_out h
      refine tab_value ((tab_eqGuard_eql _ (Or.inl rfl) _ _ _ _ h2).bind fun _ => ?_)
      unfold binOp
      split
      all_goals first | exact trivial | contradiction | exact (tab_eql _ _ h2).bind fun _ => trivial | exact tab_stringOp _ _ _ | skip
      · split
        · trivial
        · exact tab_intCmp _ _ _
      · split
        · trivial
        · exact tab_floatCmp _ _ _ _
      · split
        · trivial
        · exact tab_complexOp _ _ _ _ _ _
    · by_cases h3 : op = .neq
      · subst h3
        obtain ⟨k, h2⟩ := isInt_out h
        refine tab_value ((tab_eqGuard_eql _ (Or.inr rfl) _ _ _ _ h2).bind fun _ => ?_)
        unfold binOp
        split
        all_goals first | exact trivial | contradiction | exact (tab_eql _ _ h2).bind fun _ => trivial | exact tab_stringOp _ _ _ | skip
        · split
          · trivial
          · exact tab_intCmp _ _ _
        · split
          · trivial
          · exact tab_floatCmp _ _ _ _
        · split
          · trivial
          · exact tab_complexOp _ _ _ _ _ _
      · exact tab_value ((tab_eqGuard_other _ _ _ _ _ _ h1 h3).bind fun _ => tab_binOp _ _ _ _ h1 h3)
  case call c =>
    obtain ⟨callee, args, ats⟩ := c
    cases callee <;> first | exact absurd h Bool.false_ne_true | skip
    next b =>
      cases b <;> first | exact absurd h Bool.false_ne_true | skip
      exact tab_value (tab_len _ _ _)

end ops
end Go.Proofs.Ytdbjfginigekbaa
