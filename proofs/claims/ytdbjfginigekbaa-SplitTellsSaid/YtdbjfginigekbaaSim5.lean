/-
  Both runs, step by step. Conditions: those of 'Sit'.
-/
import Derived.Test.YtdbjfginigekbaaSim4
import Derived.Tactics
namespace Go.Proofs.Ytdbjfginigekbaa
open Go

def okRes (F : Nat → Bool) (rs : Array ResultVar) : Bool :=
  match rs.toList with
  | [] => true
  | [.tmp a] => !F a
  | [.tmp a, .tmp b] => !F a && !F b
  | _ => false

def callOp (k : FuncId) : Oper := { dst := some 3, op := .call { callee := .value (.func k), args := #[.tmp 2, .tmp 0, .tmp 1], argTypes := #[] }, type := 0, pos := "", after := #[], guard := none }
def gbody (k : FuncId) : Code := .seq (.region 0 #[callOp k] false) .ret

structure Sit (T : Tables) (f f' : Array Func) (S : Nat → Bool) (Fs : Nat → Nat → Bool) (k N : FuncId) (gfn : Func) : Prop where
  hS : ∀ g, S g = true → ∃ fn c, f[g]? = some fn ∧ f'[g]? = some fn ∧ fn.body = some c ∧ tameCode (Program.underlying ⟨T, f⟩) S Fs (Fs g) c = true ∧ okRes (Fs g) fn.results = true ∧ (fn.name == "runtime.NumGoroutine") = false
  hk : S k = true
  hkF : ∀ i, Fs k i = false
  hN : f'[N]? = some gfn
  hNb : gfn.body = some (gbody k)
  hNr : gfn.results = #[.tmp 3]
  hNt : gfn.ntmps = 4
  hNn : (gfn.name == "runtime.NumGoroutine") = false
  hE : ∀ g, Program.stepOf ⟨T, f'⟩ g = none
  hA : T.follows .staticDataAhead = true

/-- The frame at the bottom of the second run: it ends whatever comes back to it. -/
def c0 : Frame := { fn := 0, tmps := #[], todo := [.code (.refuse "")], defers := [{ target := .nil, args := #[] }], mode := .run, kind := .normal, roundOf := none }

variable {T : Tables} {f f' : Array Func} {S : Nat → Bool} {Fs : Nat → Nat → Bool} {k N : FuncId} {gfn : Func} {l : Value} {base : List Frame}

def V2 (N : FuncId) (l : Value) : Value := .func (.func N) #[] #[l]
def V1 (k : FuncId) (l : Value) : Value := .func (.func k) #[l] #[]

def tameAll (T : Tables) (f : Array Func) (S : Nat → Bool) (Fs : Nat → Nat → Bool) (fn : FuncId) (todo : List Item) : Prop := todo.all (tameItem (Program.underlying ⟨T, f⟩) S Fs (Fs fn)) = true

/-- Two callers that wait for one answer. -/
structure CA (T : Tables) (f : Array Func) (S : Nat → Bool) (Fs : Nat → Nat → Bool) (F2 F1 : Value) (c2 c1 : Frame) : Prop where
  out : ∃ fn ops i r kk t2 t1, c2 = fram fn t2 (.inRegion ops (i :: r) :: kk) .run ∧ c1 = fram fn t1 (.inRegion ops (i :: r) :: kk) .run ∧ S fn = true ∧ RT (Fs fn) F2 F1 t2 t1 ∧ tameAll T f S Fs fn (.inRegion ops r :: kk) ∧ ∀ d, (ops[i]?).bind (·.dst) = some d → Fs fn d = false

inductive CR (T : Tables) (f : Array Func) (S : Nat → Bool) (Fs : Nat → Nat → Bool) (k N : FuncId) (l : Value) (base : List Frame) : List Frame → List Frame → Prop
  | base : CR T f S Fs k N l base [c0] base
  | cons {c2 c1 cs2 cs1} : CA T f S Fs (V2 N l) (V1 k l) c2 c1 → CR T f S Fs k N l base cs2 cs1 → CR T f S Fs k N l base (c2 :: cs2) (c1 :: cs1)
  | ext {c2 c1 cs2 cs1} (x y : Value) : CA T f S Fs (V2 N l) (V1 k l) c2 c1 → CR T f S Fs k N l base cs2 cs1 →
      CR T f S Fs k N l base (fram N #[x, y, l, undef] [.inRegion #[callOp k] [0], .code .ret] .run :: c2 :: cs2) (c1 :: cs1)

inductive ST (T : Tables) (f : Array Func) (S : Nat → Bool) (Fs : Nat → Nat → Bool) (k N : FuncId) (l : Value) (base : List Frame) : Frame → List Frame → Frame → List Frame → Prop
  | norm {fn t2 t1 todo m cs2 cs1} : S fn = true → RT (Fs fn) (V2 N l) (V1 k l) t2 t1 → tameAll T f S Fs fn todo → (m = .run ∨ m = .returning) → CR T f S Fs k N l base cs2 cs1 →
      ST T f S Fs k N l base (fram fn t2 todo m) cs2 (fram fn t1 todo m) cs1
  | pre {c2 c1 cs2 cs1} (x y : Value) (todo : List Item) : (todo = [.code (gbody k)] ∨ todo = [.code (.region 0 #[callOp k] false), .code .ret] ∨ todo = [.inRegion #[callOp k] [0], .code .ret]) →
      CA T f S Fs (V2 N l) (V1 k l) c2 c1 → CR T f S Fs k N l base cs2 cs1 → ST T f S Fs k N l base (fram N #[x, y, l, undef] todo .run) (c2 :: cs2) (Frame.enter ⟨T, f⟩ k #[l, x, y] .normal) (c1 :: cs1)
  | post {c2 c1 cs2 cs1} (x y v : Value) (todo : List Item) (m : FrameMode) : ((m = .run ∧ todo = [.inRegion #[callOp k] [], .code .ret]) ∨ (m = .run ∧ todo = [.code .ret]) ∨ (m = .returning ∧ todo = [.code .ret])) →
      CA T f S Fs (V2 N l) (V1 k l) c2 c1 → CR T f S Fs k N l base cs2 cs1 → ST T f S Fs k N l base (fram N #[x, y, l, v] todo m) (c2 :: cs2) (c1.finish v) cs1

theorem tameAll.head {fn : FuncId} {i : Item} {k : List Item} (h : tameAll T f S Fs fn (i :: k)) : tameItem (Program.underlying ⟨T, f⟩) S Fs (Fs fn) i = true ∧ tameAll T f S Fs fn k := by
  simpa [tameAll] using h

theorem tameAll.exit {fn : FuncId} {id : Nat} : ∀ {k k' : List Item}, tameAll T f S Fs fn k → exitTo id k = some k' → tameAll T f S Fs fn k' := by
  intro k
  induction k with
  | nil => intro k' h e; simp [exitTo] at e
  | cons i k ih =>
    intro k' h e
    cases i <;> simp only [exitTo] at e <;> first | exact ih h.head.2 e | skip
    split at e
    · cases e; exact h.head.2
    · exact ih h.head.2 e

theorem CA.finish {F2 F1 : Value} {c2 c1 : Frame} (h : CA T f S Fs F2 F1 c2 c1) (v : Value) : ∃ fn t2 t1 todo, c2.finish v = fram fn t2 todo .run ∧ c1.finish v = fram fn t1 todo .run ∧ S fn = true ∧ RT (Fs fn) F2 F1 t2 t1 ∧ tameAll T f S Fs fn todo := by
  obtain ⟨fn, ops, i, r, kk, t2, t1, rfl, rfl, hS, hR, hT, hd⟩ := h.out
  refine ⟨fn, _, _, _, finish_fram _ _ _ _ _ _ _ _, finish_fram _ _ _ _ _ _ _ _, hS, ?_, hT⟩
  exact hR.finish ops i v v fun d e => ⟨fun _ => rfl, fun hf => by rw [hd d e] at hf; exact absurd hf (by decide)⟩

theorem results_ok {F : Nat → Bool} {F2 F1 : Value} {t2 t1 : Array Value} {fn : Func} (h : okRes F fn.results = true) (hR : RT F F2 F1 t2 t1) (p q : Program) (w : World) :
    ∃ v, (results fn t2).run q w = .ok v w ∧ (results fn t1).run p w = .ok v w := by
  have e : ∀ a, F a = false → t1.getD a undef = t2.getD a undef := fun a ha => by
    rw [Array.getD_eq_getD_getElem?, Array.getD_eq_getD_getElem?, (hR.2 a).1 ha]
  unfold okRes at h
  generalize hrs : fn.results = rs at h
  obtain ⟨rs⟩ := rs
  simp only at h
  split at h
  · exact ⟨_, results_none hrs _ _ _, results_none hrs _ _ _⟩
  · next a =>
    have h' : F a = false := by simpa using h
    refine ⟨_, results_tmp hrs _ _ _, ?_⟩
    rw [← e a h']; exact results_tmp hrs _ _ _
  · next a b =>
    have h' : F a = false ∧ F b = false := by simpa using h
    refine ⟨_, results_tmp2 hrs _ _ _, ?_⟩
    rw [← e a h'.1, ← e b h'.2]; exact results_tmp2 hrs _ _ _
  · exact absurd h (by decide)

theorem G_return {p : Program} {fn : FuncId} {t : Array Value} {todo : List Item} {c : Frame} {cs : List Frame} {w : World} {g : Func} {v : Value} (hf : p.funcs[fn]? = some g) (h : (results g t).run p w = .ok v w) :
    G p (fram fn t todo .returning) (c :: cs) w = goTo (c.finish v) cs w := by
  simp [G, goTo, stepG, unwind, fram, hf, Sem.runT_eq, h, doReturn]

end Go.Proofs.Ytdbjfginigekbaa
