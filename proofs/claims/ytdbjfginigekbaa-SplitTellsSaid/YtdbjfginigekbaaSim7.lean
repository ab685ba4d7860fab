/-
  Both runs, step by step: the operations, and the whole step. Conditions: those of 'Sit'.
-/
import Derived.Test.YtdbjfginigekbaaSim6
namespace Go.Proofs.Ytdbjfginigekbaa
open Go

variable {T : Tables} {f f' : Array Func} {S : Nat → Bool} {Fs : Nat → Nat → Bool} {k N : FuncId} {gfn : Func} {l : Value} {base : List Frame}

theorem callFunc_enter {p : Program} {g : FuncId} {fn : Func} {c : Code} (hf : p.funcs[g]? = some fn) (hb : fn.body = some c) (hn : (fn.name == "runtime.NumGoroutine") = false) (args : Array Value) (w : World) :
    (callFunc g args).run p w = .ok (.enter g args) w := by
  simp [callFunc, program, Sem.run, hf, hb, Bind.bind, Sem.bind, pure]
  simpa using hn

theorem enter_fram {p : Program} {g : FuncId} {fn : Func} {c : Code} (hf : p.funcs[g]? = some fn) (hb : fn.body = some c) (args : Array Value) :
    Frame.enter p g args .normal = fram g (args ++ Array.replicate (fn.ntmps - args.size) undef) [.code c] .run := by
  simp [Frame.enter, fram, hf, hb]

theorem execOp_callFunc (ρ : Operand → Value) (o : Oper) (g : FuncId) (args : Array Operand) (ts : Array TypeId) (h : o.op = .call { callee := .value (.func g), args := args, argTypes := ts }) (hρ : ρ (.func g) = .func (.func g) #[] #[]) :
    execOp ρ o = callFunc g (args.map ρ) := by
  unfold execOp
  rw [h]
  simp [resolve, hρ, Deferred.ofValue, invoke, pure, Bind.bind, Sem.bind]

theorem execOp_callValue (ρ : Operand → Value) (o : Oper) (x : Operand) (g : FuncId) (first captured : Array Value) (args : Array Operand) (ts : Array TypeId) (h : o.op = .call { callee := .value x, args := args, argTypes := ts }) (hρ : ρ x = .func (.func g) first captured) :
    execOp ρ o = callFunc g (first ++ args.map ρ ++ captured) := by
  unfold execOp
  rw [h]
  simp [resolve, hρ, Deferred.ofValue, invoke, pure, Bind.bind, Sem.bind]

theorem execOp_callUndef (ρ : Operand → Value) (o : Oper) (x : Operand) (args : Array Operand) (ts : Array TypeId) (h : o.op = .call { callee := .value x, args := args, argTypes := ts }) (hρ : ρ x = undef) (p : Program) (w : World) :
    (execOp ρ o).run p w = .halt (.stuck "call: function value expected") w := by
  unfold execOp
  rw [h]
  simp [resolve, hρ, Deferred.ofValue, undef, stuck, Bind.bind, Sem.bind]

theorem RT.refl {F : Nat → Bool} {F2 F1 : Value} (hF : ∀ i, F i = false) (t : Array Value) : RT F F2 F1 t t :=
  ⟨rfl, fun i => ⟨fun _ => rfl, fun h => by rw [hF i] at h; exact absurd h (by decide)⟩⟩

theorem lock_oper (sit : Sit T f f' S Fs k N gfn) {fn : FuncId} {t2 t1 : Array Value} {ops : Array Oper} {i : Nat} {r : List Nat} {kk : List Item} {cs2 cs1 : List Frame} {w : World} {o : Oper}
    (hS : S fn = true) (hR : RT (Fs fn) (V2 N l) (V1 k l) t2 t1) (hT : tameAll T f S Fs fn (.inRegion ops (i :: r) :: kk)) (hC : CR T f S Fs k N l base cs2 cs1)
    (ho : ops[i]? = some o) (hw : Region.wanted o (yielded ops t2) = true) :
    Lock T f f' S Fs k N l base (fram fn t2 (.inRegion ops (i :: r) :: kk) .run) cs2 (fram fn t1 (.inRegion ops (i :: r) :: kk) .run) cs1 w := by
  have htame : tameOp (Program.underlying ⟨T, f⟩) S Fs (Fs fn) o = true := by
    have h := hT.head.1
    simp only [tameItem, Array.all_eq_true'] at h
    exact h o (Array.mem_of_getElem? ho)
  have hbind : (ops[i]?).bind (·.dst) = o.dst := by rw [ho]; rfl
  have hy := hR.yielded ⟨_, _, _, rfl⟩ ⟨_, _, _, rfl⟩ ops
  have q2 := G_oper (p := ⟨T, f'⟩) (fn := fn) (t := t2) (k := kk) (cs := cs2) (w := w) ops i r o ho hw
  have q1 := G_oper (p := ⟨T, f⟩) (fn := fn) (t := t1) (k := kk) (cs := cs1) (w := w) ops i r o ho (by rw [hy]; exact hw)
  have mv : ∀ x, (o.op = .move (.tmp x) ∨ o.op = .assign (.tmp x)) → (∀ d, o.dst = some d → Fs fn d = Fs fn x) → Lock T f f' S Fs k N l base (fram fn t2 (.inRegion ops (i :: r) :: kk) .run) cs2 (fram fn t1 (.inRegion ops (i :: r) :: kk) .run) cs1 w := by
    intro x hop hd
    have e : ∀ (ρ : Operand → Value) (p : Program), (execOp ρ o).run p w = .ok (.value (ρ (.tmp x))) w := fun ρ p => by
      unfold execOp; rcases hop with h | h <;> rw [h] <;> rfl
    refine Lock.both (by rw [q2, apply_value (e _ _)]) (by rw [q1, apply_value (e _ _)]) ?_
    rw [finish_fram, finish_fram]
    refine ST.norm hS (hR.finish ops i _ _ fun d hd' => ?_) hT (Or.inl rfl) hC
    rw [hbind] at hd'
    have hdx := hd d hd'
    refine ⟨fun h0 => hR.eval (.tmp x) (by simp [okVar, ← hdx, h0]) _ _ _, fun h1 => ?_⟩
    rcases hR.evalF x (by rw [← hdx]; exact h1) fn (.inRegion ops (i :: r) :: kk) .run with ⟨a, b⟩ | ⟨a, b⟩
    · exact Or.inl ⟨a, b⟩
    · exact Or.inr ⟨a, b⟩
  have ca : ∀ {d : Option Tmp}, o.dst = d → (match d with | some d => !Fs fn d | none => true) = true → CA T f S Fs (V2 N l) (V1 k l) (fram fn t2 (.inRegion ops (i :: r) :: kk) .run) (fram fn t1 (.inRegion ops (i :: r) :: kk) .run) := by
    intro d e hd
    refine ⟨fn, ops, i, r, kk, t2, t1, rfl, rfl, hS, hR, hT, fun d' hd' => ?_⟩
    rw [hbind, e] at hd'
    subst hd'
    simpa using hd
  unfold tameOp at htame
  split at htame
  · next x hop =>
    refine mv x (Or.inl hop) fun d hd => ?_
    rw [hd] at htame
    simpa using htame
  · next x hop =>
    refine mv x (Or.inr hop) fun d hd => ?_
    rw [hd] at htame
    simpa using htame
  · next x a ts hop =>
    simp only [Bool.and_eq_true, beq_iff_eq] at htame
    obtain ⟨⟨⟨hx, hsz⟩, hall⟩, hd⟩ := htame
    rcases hR.evalF x hx fn (.inRegion ops (i :: r) :: kk) .run with ⟨e1, e2⟩ | ⟨e2, e1⟩
    · obtain ⟨o', h'⟩ := apply_stuck (cs := cs2) (fr := fram fn t2 (.inRegion ops (i :: r) :: kk) .run) (execOp_callUndef _ o _ _ _ hop e2 ⟨T, f'⟩ w)
      exact Or.inl ⟨o', w, by rw [q2, h']⟩
    · have ea : a.map (fram fn t1 (.inRegion ops (i :: r) :: kk) .run).eval = a.map (fram fn t2 (.inRegion ops (i :: r) :: kk) .run).eval :=
        Array.map_congr_left fun y hy => hR.eval y (by rw [Array.all_eq_true'] at hall; exact hall y hy) _ _ _
      obtain ⟨fk, ck, hfk, hfk', hbk, _, _, hnk⟩ := sit.hS k sit.hk
      have x2 := execOp_callValue _ o _ _ _ _ _ _ hop e2
      have x1 := execOp_callValue _ o _ _ _ _ _ _ hop e1
      rw [ea] at x1
      rw [x2, apply_enter (callFunc_enter sit.hN sit.hNb sit.hNn _ _)] at q2
      rw [x1, apply_enter (callFunc_enter hfk hbk hnk _ _)] at q1
      generalize hm : a.map (fram fn t2 (.inRegion ops (i :: r) :: kk) .run).eval = m at q2 q1
      have hm2 : m.size = 2 := by rw [← hm]; simpa using hsz
      obtain ⟨x, y, rfl⟩ : ∃ x y, m = #[x, y] := by
        obtain ⟨m⟩ := m
        match m, hm2 with
        | [x, y], _ => exact ⟨x, y, rfl⟩
      have en : Frame.enter ⟨T, f'⟩ N (#[] ++ #[x, y] ++ #[l]) .normal = fram N #[x, y, l, undef] [.code (gbody k)] .run := by
        rw [enter_fram sit.hN sit.hNb, sit.hNt]; rfl
      rw [en] at q2
      have e3 : (#[l] ++ #[x, y] ++ #[] : Array Value) = #[l, x, y] := rfl
      rw [e3] at q1
      exact Lock.both q2 q1 (ST.pre x y _ (Or.inl rfl) (ca rfl hd) hC)
  · next g a ts hop =>
    simp only [Bool.and_eq_true] at htame
    obtain ⟨⟨hg, hargs⟩, hd⟩ := htame
    obtain ⟨fg, cg, hfg, hfg', hbg, htg, _, hng⟩ := sit.hS g hg
    have x2 := execOp_callFunc (fram fn t2 (.inRegion ops (i :: r) :: kk) .run).eval o g a ts hop rfl
    have x1 := execOp_callFunc (fram fn t1 (.inRegion ops (i :: r) :: kk) .run).eval o g a ts hop rfl
    rw [x2, apply_enter (callFunc_enter hfg' hbg hng _ _), enter_fram hfg' hbg] at q2
    rw [x1, apply_enter (callFunc_enter hfg hbg hng _ _), enter_fram hfg hbg] at q1
    simp only [Array.size_map] at q1 q2
    refine Lock.both q2 q1 (ST.norm hg (hR.enter hargs _ _ _ _) ?_ (Or.inl rfl) (CR.cons (ca rfl hd) hC))
    simpa [tameAll, tameItem] using htg
  · next op hop1 hop2 hop3 hop4 =>
    simp only [Bool.and_eq_true] at htame
    refine lock_same sit hS hR hT hC ho hw htame.1.1 htame.1.2 fun d hd => ?_
    have := htame.2
    rw [hd] at this
    simpa using this

end Go.Proofs.Ytdbjfginigekbaa
