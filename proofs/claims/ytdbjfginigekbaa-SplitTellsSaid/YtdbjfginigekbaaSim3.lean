/-
  Two runs in step: of one program with a function value F1, and of another one, with the same tables, with F2 in its place: what moves them about, and never looks at them, goes alike. Conditions: the code is tame.
-/
import Derived.Test.YtdbjfginigekbaaSim2
namespace Go.Proofs.Ytdbjfginigekbaa
open Go

/-- The operand is no slot that may hold the function value. -/
def okVar (F : Nat → Bool) : Operand → Bool
  | .tmp t => !F t
  | _ => true

def okArg (F G : Nat → Bool) (a : Operand) (i : Nat) : Bool :=
  match a with
  | .tmp x => F x == G i
  | _ => !G i

def okArgs (F G : Nat → Bool) : List Operand → Nat → Bool
  | [], _ => true
  | a :: l, i => okArg F G a i && okArgs F G l (i + 1)

def tameOp (und : TypeId → Option TypeDesc) (S : Nat → Bool) (Fs : Nat → Nat → Bool) (F : Nat → Bool) (o : Oper) : Bool :=
  match o.op with
  | .move (.tmp x) | .assign (.tmp x) => match o.dst with
    | some d => F d == F x
    | none => true
  | .call { callee := .value (.tmp x), args := a, .. } => F x && a.size == 2 && a.all (okVar F) && (match o.dst with | some d => !F d | none => true)
  | .call { callee := .value (.func g), args := a, .. } => S g && okArgs F (Fs g) a.toList 0 && (match o.dst with | some d => !F d | none => true)
  | op => okOp und op && op.operands.all (okVar F) && (match o.dst with | some d => !F d | none => true)

def tameCode (und : TypeId → Option TypeDesc) (S : Nat → Bool) (Fs : Nat → Nat → Bool) (F : Nat → Bool) : Code → Bool
  | .skip | .ret | .exit _ => true
  | .region _ ops _ => ops.all (tameOp und S Fs F)
  | .seq a b => tameCode und S Fs F a && tameCode und S Fs F b
  | .cond c a b => okVar F c && tameCode und S Fs F a && tameCode und S Fs F b
  | .block _ b | .loop b => tameCode und S Fs F b
  | _ => false

def tameItem (und : TypeId → Option TypeDesc) (S : Nat → Bool) (Fs : Nat → Nat → Bool) (F : Nat → Bool) : Item → Bool
  | .code c | .inLoop c => tameCode und S Fs F c
  | .inBlock _ => true
  | .inRegion ops _ => ops.all (tameOp und S Fs F)
  | _ => false

/-- The slots of both runs. -/
def RT (F : Nat → Bool) (F2 F1 : Value) (t2 t1 : Array Value) : Prop :=
  t1.size = t2.size ∧ ∀ i, (F i = false → t1[i]? = t2[i]?) ∧ (F i = true → (t1[i]? = t2[i]? ∧ ∀ v, t2[i]? = some v → v = undef) ∨ (t2[i]? = some F2 ∧ t1[i]? = some F1))

def fram (fn : FuncId) (t : Array Value) (todo : List Item) (m : FrameMode) : Frame :=
  { fn := fn, tmps := t, todo := todo, defers := [], mode := m, kind := .normal, roundOf := none }

variable {F : Nat → Bool} {F2 F1 : Value} {t2 t1 : Array Value}

theorem RT.set (h : RT F F2 F1 t2 t1) (d : Nat) (v2 v1 : Value) (h0 : F d = false → v1 = v2) (h1 : F d = true → (v1 = undef ∧ v2 = undef) ∨ (v2 = F2 ∧ v1 = F1)) :
    RT F F2 F1 (t2.setIfInBounds d v2) (t1.setIfInBounds d v1) := by
  refine ⟨by simp [h.1], fun i => ?_⟩
  have hi := h.2 i
  by_cases e : d = i
  · subst e
    by_cases hd : d < t2.size
    · have hd' : d < t1.size := by rw [h.1]; exact hd
      rw [Array.getElem?_setIfInBounds_self_of_lt hd, Array.getElem?_setIfInBounds_self_of_lt hd']
      refine ⟨fun hf => by rw [h0 hf], fun hf => ?_⟩
      rcases h1 hf with ⟨ha, hb⟩ | ⟨ha, hb⟩
      · exact Or.inl ⟨by rw [ha, hb], fun v hv => by cases hv; exact hb⟩
      · exact Or.inr ⟨by rw [ha], by rw [hb]⟩
    · have hd' : ¬ d < t1.size := by rw [h.1]; exact hd
      rw [Array.setIfInBounds_eq_of_size_le (by omega), Array.setIfInBounds_eq_of_size_le (by omega)]
      exact hi
  · rw [Array.getElem?_setIfInBounds_ne e, Array.getElem?_setIfInBounds_ne e]
    exact hi

theorem RT.eval (h : RT F F2 F1 t2 t1) (x : Operand) (hx : okVar F x = true) (fn : FuncId) (k : List Item) (m : FrameMode) : (fram fn t1 k m).eval x = (fram fn t2 k m).eval x := by
  cases x with
  | tmp t =>
    have hf : F t = false := by simpa [okVar] using hx
    show t1.getD t undef = t2.getD t undef
    rw [Array.getD_eq_getD_getElem?, Array.getD_eq_getD_getElem?, (h.2 t).1 hf]
  | _ => rfl

theorem RT.evalF (h : RT F F2 F1 t2 t1) (t : Nat) (hx : F t = true) (fn : FuncId) (k : List Item) (m : FrameMode) :
    ((fram fn t1 k m).eval (.tmp t) = undef ∧ (fram fn t2 k m).eval (.tmp t) = undef) ∨ ((fram fn t2 k m).eval (.tmp t) = F2 ∧ (fram fn t1 k m).eval (.tmp t) = F1) := by
  show (t1.getD t undef = undef ∧ t2.getD t undef = undef) ∨ (t2.getD t undef = F2 ∧ t1.getD t undef = F1)
  simp only [Array.getD_eq_getD_getElem?]
  rcases (h.2 t).2 hx with ⟨ha, hb⟩ | ⟨ha, hb⟩
  · left
    rw [ha]
    cases he : t2[t]? with
    | none => exact ⟨rfl, rfl⟩
    | some v => have := hb v he; subst this; exact ⟨rfl, rfl⟩
  · right
    rw [ha, hb]; exact ⟨rfl, rfl⟩

theorem RT.yielded (h : RT F F2 F1 t2 t1) (h2 : ∃ a b c, F2 = .func a b c) (h1 : ∃ a b c, F1 = .func a b c) (ops : Array Oper) : Go.yielded ops t1 = Go.yielded ops t2 := by
  obtain ⟨a, b, c, rfl⟩ := h2
  obtain ⟨a', b', c', rfl⟩ := h1
  funext j
  unfold Go.yielded
  cases hd : (ops[j]?).bind (·.dst) with
  | none => rfl
  | some d =>
    show (match t1[d]? with | some (.bool b) => some b | _ => none) = (match t2[d]? with | some (.bool b) => some b | _ => none)
    cases hf : F d with
    | false => rw [(h.2 d).1 hf]
    | true =>
      rcases (h.2 d).2 hf with ⟨ha, _⟩ | ⟨ha, hb⟩
      · rw [ha]
      · rw [ha, hb]

theorem finish_fram (fn : FuncId) (t : Array Value) (ops : Array Oper) (i : Nat) (r : List Nat) (k : List Item) (m : FrameMode) (v : Value) :
    (fram fn t (.inRegion ops (i :: r) :: k) m).finish v = fram fn (match (ops[i]?).bind (·.dst) with | some d => t.setIfInBounds d v | none => t) (.inRegion ops r :: k) m := rfl

theorem RT.finish (h : RT F F2 F1 t2 t1) (ops : Array Oper) (i : Nat) (v2 v1 : Value)
    (hd : ∀ d, (ops[i]?).bind (·.dst) = some d → (F d = false → v1 = v2) ∧ (F d = true → (v1 = undef ∧ v2 = undef) ∨ (v2 = F2 ∧ v1 = F1))) :
    RT F F2 F1 (match (ops[i]?).bind (·.dst) with | some d => t2.setIfInBounds d v2 | none => t2) (match (ops[i]?).bind (·.dst) with | some d => t1.setIfInBounds d v1 | none => t1) := by
  cases he : (ops[i]?).bind (·.dst) with
  | none => exact h
  | some d => exact h.set d v2 v1 (hd d he).1 (hd d he).2

theorem execOp_congr {und : TypeId → Option TypeDesc} {ρ1 ρ2 : Operand → Value} {o : Oper} (h : okOp und o.op = true) (hρ : ∀ x ∈ o.op.operands, ρ1 x = ρ2 x) : execOp ρ1 o = execOp ρ2 o := by
  obtain ⟨dst, op, type, pos, after, guard⟩ := o
  cases op <;> first | exact absurd h Bool.false_ne_true | skip
  case move x => simp only [execOp, hρ x (by simp [Op.operands])]
  case assign x => simp only [execOp, hρ x (by simp [Op.operands])]
  case pick c a b => simp only [execOp, hρ c (by simp [Op.operands]), hρ a (by simp [Op.operands]), hρ b (by simp [Op.operands])]
  case alloc e => rfl
  case load t a => simp only [execOp, hρ a (by simp [Op.operands])]
  case store t a x => simp only [execOp, hρ a (by simp [Op.operands]), hρ x (by simp [Op.operands])]
  case nilCheck x => simp only [execOp, hρ x (by simp [Op.operands])]
  case binOp op t x y yt => simp only [execOp, hρ x (by simp [Op.operands]), hρ y (by simp [Op.operands])]
  case unOp op t x => simp only [execOp, hρ x (by simp [Op.operands])]
  case convert s d x => simp only [execOp, hρ x (by simp [Op.operands])]
  case indexAddr t x i => simp only [execOp, hρ x (by simp [Op.operands]), hρ i (by simp [Op.operands])]
  case index t x i => simp only [execOp, hρ x (by simp [Op.operands]), hρ i (by simp [Op.operands])]
  case extract t i => simp only [execOp, hρ t (by simp [Op.operands])]
  case call c =>
    obtain ⟨callee, args, ats⟩ := c
    cases callee <;> first | exact absurd h Bool.false_ne_true | skip
    next b =>
      have e : args.map ρ1 = args.map ρ2 := Array.map_congr_left fun x hx => hρ x (by simp [Op.operands, Call.operands, hx])
      simp only [execOp, resolve, e]

end Go.Proofs.Ytdbjfginigekbaa
