/-
  One step of a frame of tame code, of either run. Conditions: the code is tame.
-/
import Derived.Test.YtdbjfginigekbaaSim3
namespace Go.Proofs.Ytdbjfginigekbaa
open Go

def G (p : Program) (fr : Frame) (cs : List Frame) (w : World) : GStep := (stepG p true { frame := fr, callers := cs, status := .running, dying := none } w).bare
def goTo (fr : Frame) (cs : List Frame) (w : World) : GStep := .go { frame := fr, callers := cs, status := .running, dying := none } w

variable {p : Program} {fn : FuncId} {t : Array Value} {k : List Item} {cs : List Frame} {w : World}

theorem G_nil : G p (fram fn t [] .run) cs w = goTo (fram fn t [] .returning) cs w := by simp [G, goTo, stepG, stepG.exec, fram]
theorem G_ret : G p (fram fn t (.code .ret :: k) .run) cs w = goTo (fram fn t (.code .ret :: k) .returning) cs w := by simp [G, goTo, stepG, stepG.exec, fram]
theorem G_skip : G p (fram fn t (.code .skip :: k) .run) cs w = goTo (fram fn t k .run) cs w := by simp [G, goTo, stepG, stepG.exec, fram]
theorem G_inBlock (id : Nat) : G p (fram fn t (.inBlock id :: k) .run) cs w = goTo (fram fn t k .run) cs w := by simp [G, goTo, stepG, stepG.exec, fram]
theorem G_seq (a b : Code) : G p (fram fn t (.code (.seq a b) :: k) .run) cs w = goTo (fram fn t (.code a :: .code b :: k) .run) cs w := by simp [G, goTo, stepG, stepG.exec, fram]
theorem G_block (id : Nat) (b : Code) : G p (fram fn t (.code (.block id b) :: k) .run) cs w = goTo (fram fn t (.code b :: .inBlock id :: k) .run) cs w := by simp [G, goTo, stepG, stepG.exec, fram]
theorem G_loop (b : Code) : G p (fram fn t (.code (.loop b) :: k) .run) cs w = goTo (fram fn t (.code b :: .inLoop b :: k) .run) cs w := by simp [G, goTo, stepG, stepG.exec, fram]
theorem G_inLoop (b : Code) : G p (fram fn t (.inLoop b :: k) .run) cs w = goTo (fram fn t (.code b :: .inLoop b :: k) .run) cs w := by simp [G, goTo, stepG, stepG.exec, fram]
theorem G_cond (c : Operand) (a b : Code) (x : Bool) (h : (fram fn t (.code (.cond c a b) :: k) .run).eval c = .bool x) : G p (fram fn t (.code (.cond c a b) :: k) .run) cs w = goTo (fram fn t (.code (if x then a else b) :: k) .run) cs w := by
  simp only [fram] at h
  simp [G, goTo, stepG, stepG.exec, fram, h]
theorem G_cond_bad (c : Operand) (a b : Code) (h : ∀ x, (fram fn t (.code (.cond c a b) :: k) .run).eval c ≠ .bool x) : ∃ o, G p (fram fn t (.code (.cond c a b) :: k) .run) cs w = .ended o w := by
  simp only [fram] at h
  simp only [G, stepG, stepG.exec, fram]
  exact ⟨_, rfl⟩
theorem G_exit (id : Nat) {k' : List Item} (h : exitTo id k = some k') : G p (fram fn t (.code (.exit id) :: k) .run) cs w = goTo (fram fn t k' .run) cs w := by
  simp [G, goTo, stepG, stepG.exec, fram, h]
theorem G_exit_bad (id : Nat) (h : exitTo id k = none) : ∃ o, G p (fram fn t (.code (.exit id) :: k) .run) cs w = .ended o w := by
  simp [G, stepG, stepG.exec, fram, h]
theorem G_region (id : Nat) (ops : Array Oper) : G p (fram fn t (.code (.region id ops false) :: k) .run) cs w = goTo (fram fn t (.inRegion ops (List.range ops.size) :: k) .run) cs w := by simp [G, goTo, stepG, stepG.exec, fram]
theorem G_regionDraw (id : Nat) (ops : Array Oper) : G p (fram fn t (.code (.region id ops true) :: k) .run) cs w = goTo (fram fn t (.inRegion ops (Region.schedule (p.follows .mixedOrders) ops (w.tape w.drawn (.order fn id))) :: k) .run) cs { w with drawn := w.drawn + 1 } := by
  simp [G, goTo, stepG, stepG.exec, fram, choose, Sem.run, Question.forced, Question.cut]
theorem G_inRegion_nil (ops : Array Oper) : G p (fram fn t (.inRegion ops [] :: k) .run) cs w = goTo (fram fn t k .run) cs w := by simp [G, goTo, stepG, stepG.exec, fram]

theorem G_notWanted (ops : Array Oper) (i : Nat) (r : List Nat) (h : ((ops[i]?).map (Region.wanted · (yielded ops t))).getD false = false) :
    G p (fram fn t (.inRegion ops (i :: r) :: k) .run) cs w = goTo ((fram fn t (.inRegion ops (i :: r) :: k) .run).finish undef) cs w := by
  simp only [G, goTo, stepG, stepG.exec, fram, h]
  simp

theorem G_oper (ops : Array Oper) (i : Nat) (r : List Nat) (o : Oper) (ho : ops[i]? = some o) (h : Region.wanted o (yielded ops t) = true) :
    G p (fram fn t (.inRegion ops (i :: r) :: k) .run) cs w = (stepG.apply p true (fram fn t (.inRegion ops (i :: r) :: k) .run) cs none (execOp (fram fn t (.inRegion ops (i :: r) :: k) .run).eval o) w).bare := by
  have e : (Option.map (fun x => Region.wanted x (yielded ops t)) (some o)).getD false = true := h
  simp only [G, stepG, stepG.exec, fram, stepG.oper, Frame.oper?, ho]
  rw [if_pos e]

theorem apply_value {fr : Frame} {s : Sem Next} {v : Value} {w' : World} (h : s.run p w = .ok (.value v) w') : (stepG.apply p true fr cs none s w).bare = goTo (fr.finish v) cs w' := by
  simp [stepG.apply, Sem.runT_eq, h, goTo]
theorem apply_skip {fr : Frame} {s : Sem Next} {w' : World} (h : s.run p w = .ok .skip w') : (stepG.apply p true fr cs none s w).bare = goTo (fr.finish undef) cs w' := by
  simp [stepG.apply, Sem.runT_eq, h, goTo]
theorem apply_enter {ops : Array Oper} {i : Nat} {r : List Nat} {s : Sem Next} {g : FuncId} {args : Array Value} {w' : World} (h : s.run p w = .ok (.enter g args) w') :
    (stepG.apply p true (fram fn t (.inRegion ops (i :: r) :: k) .run) cs none s w).bare = goTo (Frame.enter p g args .normal) (fram fn t (.inRegion ops (i :: r) :: k) .run :: cs) w' := by
  simp [stepG.apply, Sem.runT_eq, h, goTo, fram]
theorem apply_panic {fr : Frame} {s : Sem Next} {v : Value} {w' : World} (h : s.run p w = .halt (.panic v) w') : (stepG.apply p true fr cs none s w).bare = goTo (fr.raise [{ v, recovered := false }]) cs w' := by
  simp [stepG.apply, Sem.runT_eq, h, goTo]
theorem apply_stuck {fr : Frame} {s : Sem Next} {m : String} {w' : World} (h : s.run p w = .halt (.stuck m) w') : ∃ o, (stepG.apply p true fr cs none s w).bare = .ended o w' := by
  simp [stepG.apply, Sem.runT_eq, h]
theorem apply_unsupported {fr : Frame} {s : Sem Next} {u : Unsupported} {w' : World} (h : s.run p w = .halt (.unsupported u) w') (hn : ∀ g, p.stepOf g = none) (hf : p.follows .staticDataAhead = true) : ∃ o w'', (stepG.apply p true fr cs none s w).bare = .ended o w'' := by
  cases u
  case initOrder g => simp [stepG.apply, Sem.runT_eq, h, early, hn, hf]
  all_goals simp [stepG.apply, Sem.runT_eq, h]

end Go.Proofs.Ytdbjfginigekbaa
