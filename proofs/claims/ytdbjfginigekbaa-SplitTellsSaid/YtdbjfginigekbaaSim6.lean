/-
  Both runs, step by step: whatever the second one does the first one does too, or the second one ends, or panics. Conditions: those of 'Sit'.
-/
import Derived.Test.YtdbjfginigekbaaSim5
namespace Go.Proofs.Ytdbjfginigekbaa
open Go

variable {T : Tables} {f f' : Array Func} {S : Nat → Bool} {Fs : Nat → Nat → Bool} {k N : FuncId} {gfn : Func} {l : Value} {base : List Frame}

theorem okArgs_at {F H : Nat → Bool} : ∀ {as : List Operand} {n : Nat}, okArgs F H as n = true → ∀ i a, as[i]? = some a → okArg F H a (n + i) = true := by
  intro as
  induction as with
  | nil => intro n _ i a h; simp at h
  | cons b as ih =>
    intro n h i a ha
    simp only [okArgs, Bool.and_eq_true] at h
    cases i with
    | zero => simp at ha; subst ha; exact h.1
    | succ i =>
      have := ih h.2 i a (by simpa using ha)
      rwa [show n + 1 + i = n + (i + 1) from by omega] at this

/-- The frames of a call in both runs. -/
theorem RT.enter {F H : Nat → Bool} {F2 F1 : Value} {t2 t1 : Array Value} (h : RT F F2 F1 t2 t1) {as : Array Operand} (ha : okArgs F H as.toList 0 = true) (fn : FuncId) (kk : List Item) (m : FrameMode) (n : Nat) :
    RT H F2 F1 (as.map (fram fn t2 kk m).eval ++ Array.replicate n undef) (as.map (fram fn t1 kk m).eval ++ Array.replicate n undef) := by
  refine ⟨by simp, fun i => ?_⟩
  by_cases hi : i < as.size
  · rw [Array.getElem?_append_left (by simp; exact hi), Array.getElem?_append_left (by simp; exact hi)]
    have ea : as[i]? = some as[i] := by simp [hi]
    rw [Array.getElem?_map, Array.getElem?_map, ea]
    have ho := okArgs_at ha i as[i] (by simp [hi])
    rw [Nat.zero_add] at ho
    simp only [Option.map_some]
    generalize as[i] = a at ho ⊢
    cases a with
    | tmp x =>
      simp only [okArg, beq_iff_eq] at ho
      refine ⟨fun hf => ?_, fun hf => ?_⟩
      · rw [h.eval (.tmp x) (by simp [okVar, ho, hf])]
      · rcases h.evalF x (by rw [ho]; exact hf) fn kk m with ⟨e1, e2⟩ | ⟨e2, e1⟩
        · left; rw [e1, e2]; exact ⟨rfl, fun v hv => by cases hv; rfl⟩
        · right; exact ⟨congrArg some e2, congrArg some e1⟩
    | _ =>
      simp only [okArg, Bool.not_eq_true'] at ho
      exact ⟨fun _ => rfl, fun hf => by rw [ho] at hf; exact absurd hf (by decide)⟩
  · rw [Array.getElem?_append_right (by simp; omega), Array.getElem?_append_right (by simp; omega)]
    simp only [Array.size_map]
    refine ⟨fun _ => trivial, fun _ => Or.inl ⟨trivial, fun v hv => ?_⟩⟩
    rw [Array.getElem?_replicate] at hv
    split at hv
    · cases hv; rfl
    · cases hv

/-- Each answer of the tree is such. -/
def Leaf {α : Type} (Q : α → Prop) : Sem α → Prop
  | .pure a => Q a
  | .load _ _ k => ∀ v, Leaf Q (k v)
  | .store _ _ _ k => Leaf Q k
  | .new _ k => ∀ n, Leaf Q (k n)
  | .shape _ k => ∀ s, Leaf Q (k s)
  | .freeze _ _ k => Leaf Q k
  | .frozen _ k => ∀ b, Leaf Q (k b)
  | .getObj _ k => ∀ o, Leaf Q (k o)
  | .setObj _ _ k => Leaf Q k
  | .choose _ k => ∀ n, Leaf Q (k n)
  | .sys _ k => ∀ r, Leaf Q (k r)
  | .program k => ∀ p, Leaf Q (k p)
  | .mark _ k => Leaf Q k
  | .halt _ => True

theorem Leaf.bind {α β : Type} {Q : β → Prop} (s : Sem α) {f : α → Sem β} (hf : ∀ a, Leaf Q (f a)) : Leaf Q (s >>= f) := by
  show Leaf Q (s.bind f)
  induction s with
  | pure a => exact hf a
  | load m a k ih => intro v; exact ih v
  | store m a v k ih => exact ih
  | new o k ih => intro n; exact ih n
  | shape r k ih => intro n; exact ih n
  | freeze a n k ih => exact ih
  | frozen a k ih => intro n; exact ih n
  | getObj r k ih => intro n; exact ih n
  | setObj r o k ih => exact ih
  | choose r k ih => intro n; exact ih n
  | sys c k ih => intro n; exact ih n
  | program k ih => intro n; exact ih n
  | mark m k ih => exact ih
  | halt h => trivial

theorem Leaf.run {α : Type} {Q : α → Prop} {p : Program} {s : Sem α} (h : Leaf Q s) : ∀ {w a w'}, s.run p w = .ok a w' → Q a := by
  induction s with
  | pure a => intro w b w' e; cases e; exact h
  | load m a k ih =>
    intro w b w' e
    simp only [Sem.run] at e
    split at e
    · exact ih _ (h _) e
    · split at e
      · exact ih _ (h _) e
      · cases e
  | store m a v k ih =>
    intro w b w' e
    cases v <;> simp only [Sem.run] at e <;> first | cases e | skip
    all_goals
      split at e
      · split at e
        · cases e
        · exact ih h e
      · split at e
        · exact ih h e
        · cases e
  | new o k ih => intro w b w' e; exact ih _ (h _) e
  | shape r k ih => intro w b w' e; exact ih _ (h _) e
  | freeze a n k ih => intro w b w' e; exact ih h e
  | frozen a k ih => intro w b w' e; exact ih _ (h _) e
  | getObj r k ih =>
    intro w b w' e
    simp only [Sem.run] at e
    split at e
    · cases e
    · exact ih _ (h _) e
    · cases e
  | setObj r o k ih =>
    intro w b w' e
    simp only [Sem.run] at e
    split at e
    · cases e
    · exact ih h e
    · cases e
  | choose q k ih =>
    intro w b w' e
    simp only [Sem.run] at e
    split at e
    · exact ih _ (h _) e
    · exact ih _ (h _) e
  | sys c k ih => intro w b w' e; exact ih _ (h _) e
  | program k ih => intro w b w' e; exact ih _ (h _) e
  | mark m k ih => intro w b w' e; exact ih h e
  | halt e => intro w b w' e'; cases e'

def isVal : Next → Prop
  | .value _ | .skip => True
  | _ => False

theorem leaf_execOp {und : TypeId → Option TypeDesc} (ρ : Operand → Value) {o : Oper} (h : okOp und o.op = true) : Leaf isVal (execOp ρ o) := by
  obtain ⟨dst, op, type, pos, after, guard⟩ := o
  cases op <;> first | exact trivial | exact absurd h Bool.false_ne_true | exact Leaf.bind _ fun _ => trivial | skip
  case nilCheck x =>
    unfold execOp
    dsimp only
    split
    · exact fun _ => trivial
    · exact fun _ => trivial
    · exact fun _ => trivial
    · split
      · exact fun _ => trivial
      · refine Leaf.bind _ fun q => Leaf.bind _ fun r => ?_
        split
        · trivial
        · trivial
      · trivial
    · trivial
  case call c =>
    obtain ⟨callee, args, ats⟩ := c
    cases callee <;> first | exact absurd h Bool.false_ne_true | skip
    next b =>
      cases b <;> first | exact absurd h Bool.false_ne_true | skip
      exact Leaf.bind (Builtin.len_ ats type (args.map ρ)) fun _ => trivial

/-- The four ends of a step. -/
def Lock (T : Tables) (f f' : Array Func) (S : Nat → Bool) (Fs : Nat → Nat → Bool) (k N : FuncId) (l : Value) (base : List Frame) (fr2 : Frame) (cs2 : List Frame) (fr1 : Frame) (cs1 : List Frame) (w : World) : Prop :=
  (∃ o w', G ⟨T, f'⟩ fr2 cs2 w = .ended o w') ∨
  (∃ chain w', G ⟨T, f'⟩ fr2 cs2 w = goTo (fr2.raise chain) cs2 w' ∧ ∃ fn t todo, fr2 = fram fn t todo .run) ∨
  (∃ fr2' cs2' fr1' cs1' w', G ⟨T, f'⟩ fr2 cs2 w = goTo fr2' cs2' w' ∧ ST T f S Fs k N l base fr2' cs2' fr1' cs1' ∧ (G ⟨T, f⟩ fr1 cs1 w = goTo fr1' cs1' w' ∨ (fr1' = fr1 ∧ cs1' = cs1 ∧ w' = w))) ∨
  (cs2 = [c0] ∧ cs1 = base ∧ ∃ fn t2 t1 todo, fr2 = fram fn t2 todo .returning ∧ fr1 = fram fn t1 todo .returning ∧ S fn = true ∧ RT (Fs fn) (V2 N l) (V1 k l) t2 t1)

theorem Lock.both {fr2 : Frame} {cs2 : List Frame} {fr1 : Frame} {cs1 : List Frame} {w : World} {fr2' : Frame} {cs2' : List Frame} {fr1' : Frame} {cs1' : List Frame} {w' : World}
    (h2 : G ⟨T, f'⟩ fr2 cs2 w = goTo fr2' cs2' w') (h1 : G ⟨T, f⟩ fr1 cs1 w = goTo fr1' cs1' w') (h : ST T f S Fs k N l base fr2' cs2' fr1' cs1') : Lock T f f' S Fs k N l base fr2 cs2 fr1 cs1 w :=
  Or.inr (Or.inr (Or.inl ⟨_, _, _, _, _, h2, h, Or.inl h1⟩))

/-- An operation that both runs answer alike. -/
theorem lock_same (sit : Sit T f f' S Fs k N gfn) {fn : FuncId} {t2 t1 : Array Value} {ops : Array Oper} {i : Nat} {r : List Nat} {kk : List Item} {cs2 cs1 : List Frame} {w : World} {o : Oper}
    (hS : S fn = true) (hR : RT (Fs fn) (V2 N l) (V1 k l) t2 t1) (hT : tameAll T f S Fs fn (.inRegion ops (i :: r) :: kk)) (hC : CR T f S Fs k N l base cs2 cs1)
    (ho : ops[i]? = some o) (hw : Region.wanted o (yielded ops t2) = true) (hok : okOp (Program.underlying ⟨T, f⟩) o.op = true) (hv : o.op.operands.all (okVar (Fs fn)) = true) (hd : ∀ d, o.dst = some d → Fs fn d = false) :
    Lock T f f' S Fs k N l base (fram fn t2 (.inRegion ops (i :: r) :: kk) .run) cs2 (fram fn t1 (.inRegion ops (i :: r) :: kk) .run) cs1 w := by
  have hy := hR.yielded ⟨_, _, _, rfl⟩ ⟨_, _, _, rfl⟩ ops
  have e : execOp (fram fn t1 (.inRegion ops (i :: r) :: kk) .run).eval o = execOp (fram fn t2 (.inRegion ops (i :: r) :: kk) .run).eval o :=
    execOp_congr hok fun x hx => hR.eval x (by rw [Array.all_eq_true'] at hv; exact hv x hx) _ _ _
  have q2 := G_oper (p := ⟨T, f'⟩) (fn := fn) (t := t2) (k := kk) (cs := cs2) (w := w) ops i r o ho hw
  have q1 := G_oper (p := ⟨T, f⟩) (fn := fn) (t := t1) (k := kk) (cs := cs1) (w := w) ops i r o ho (by rw [hy]; exact hw)
  rw [e] at q1
  have ht := tab_execOp (T := T) (f := f) (f' := f') (fram fn t2 (.inRegion ops (i :: r) :: kk) .run).eval o hok
  have hrun := Tab.run T f f' ht w
  have hbind : (ops[i]?).bind (·.dst) = o.dst := by rw [ho]; rfl
  have fin : ∀ v, ST T f S Fs k N l base ((fram fn t2 (.inRegion ops (i :: r) :: kk) .run).finish v) cs2 ((fram fn t1 (.inRegion ops (i :: r) :: kk) .run).finish v) cs1 := fun v => by
    rw [finish_fram, finish_fram]
    refine ST.norm hS (hR.finish ops i v v fun d hd' => ?_) hT (Or.inl rfl) hC
    rw [hbind] at hd'
    exact ⟨fun _ => rfl, fun hf => by rw [hd d hd'] at hf; exact absurd hf (by decide)⟩
  cases hr : (execOp (fram fn t2 (.inRegion ops (i :: r) :: kk) .run).eval o).run ⟨T, f'⟩ w with
  | halt h w' =>
    have hm := hrun.2 h w' hr
    cases h <;> first | exact hm.elim | skip
    case panic v => exact Or.inr (Or.inl ⟨_, w', by rw [q2, apply_panic hr], fn, t2, _, rfl⟩)
    case unsupported u =>
      obtain ⟨o', w'', h'⟩ := apply_unsupported (cs := cs2) (fr := fram fn t2 (.inRegion ops (i :: r) :: kk) .run) hr sit.hE sit.hA
      exact Or.inl ⟨o', w'', by rw [q2, h']⟩
    case stuck m =>
      obtain ⟨o', h'⟩ := apply_stuck (cs := cs2) (fr := fram fn t2 (.inRegion ops (i :: r) :: kk) .run) hr
      exact Or.inl ⟨o', _, by rw [q2, h']⟩
  | ok a w' =>
    have hr1 := hrun.1
    rw [hr] at hr1
    have hl := (leaf_execOp _ hok).run hr
    cases a <;> first | exact hl.elim | skip
    case value v => exact Lock.both (by rw [q2, apply_value hr]) (by rw [q1, apply_value hr1]) (fin v)
    case skip => exact Lock.both (by rw [q2, apply_skip hr]) (by rw [q1, apply_skip hr1]) (fin undef)

end Go.Proofs.Ytdbjfginigekbaa
