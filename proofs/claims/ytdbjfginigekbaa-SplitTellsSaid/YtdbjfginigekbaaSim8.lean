/-
  A contract that holds where a closure is handed over holds where the method value is, over the program without that closure. Conditions: those of 'Sit'.
-/
import Derived.Test.YtdbjfginigekbaaSim7
namespace Go.Proofs.Ytdbjfginigekbaa
open Go

variable {T : Tables} {f f' : Array Func} {S : Nat → Bool} {Fs : Nat → Nat → Bool} {k N : FuncId} {gfn : Func} {l : Value} {base : List Frame}

theorem tame_code {fn : FuncId} {c : Code} {kk : List Item} (h : tameAll T f S Fs fn (.code c :: kk)) : tameCode (Program.underlying ⟨T, f⟩) S Fs (Fs fn) c = true := h.head.1

theorem tame_cons {fn : FuncId} {i : Item} {kk : List Item} (h : tameItem (Program.underlying ⟨T, f⟩) S Fs (Fs fn) i = true) (h' : tameAll T f S Fs fn kk) : tameAll T f S Fs fn (i :: kk) := by
  unfold tameAll at *
  simp [h, h']

theorem lock_norm (sit : Sit T f f' S Fs k N gfn) {fn : FuncId} {t2 t1 : Array Value} {todo : List Item} {cs2 cs1 : List Frame} {w : World}
    (hS : S fn = true) (hR : RT (Fs fn) (V2 N l) (V1 k l) t2 t1) (hT : tameAll T f S Fs fn todo) (hC : CR T f S Fs k N l base cs2 cs1) :
    Lock T f f' S Fs k N l base (fram fn t2 todo .run) cs2 (fram fn t1 todo .run) cs1 w := by
  have st : ∀ {todo'}, tameAll T f S Fs fn todo' → ST T f S Fs k N l base (fram fn t2 todo' .run) cs2 (fram fn t1 todo' .run) cs1 := fun h => ST.norm hS hR h (Or.inl rfl) hC
  match todo, hT with
  | [], hT => exact Lock.both G_nil G_nil (ST.norm hS hR hT (Or.inr rfl) hC)
  | .inBlock id :: kk, hT => exact Lock.both (G_inBlock id) (G_inBlock id) (st hT.head.2)
  | .inLoop b :: kk, hT => exact Lock.both (G_inLoop b) (G_inLoop b) (st (tame_cons hT.head.1 hT))
  | .inRegion ops [] :: kk, hT => exact Lock.both (G_inRegion_nil ops) (G_inRegion_nil ops) (st hT.head.2)
  | .inRegion ops (i :: r) :: kk, hT =>
    have hy := hR.yielded ⟨_, _, _, rfl⟩ ⟨_, _, _, rfl⟩ ops
    have no : ((ops[i]?).map (Region.wanted · (yielded ops t2))).getD false = false → Lock T f f' S Fs k N l base (fram fn t2 (.inRegion ops (i :: r) :: kk) .run) cs2 (fram fn t1 (.inRegion ops (i :: r) :: kk) .run) cs1 w := fun h => by
      refine Lock.both (G_notWanted ops i r h) (G_notWanted ops i r (by rw [hy]; exact h)) ?_
      rw [finish_fram, finish_fram]
      exact ST.norm hS (hR.finish ops i undef undef fun d _ => ⟨fun _ => rfl, fun _ => Or.inl ⟨rfl, rfl⟩⟩) hT (Or.inl rfl) hC
    cases ho : ops[i]? with
    | none => exact no (by rw [ho]; rfl)
    | some o =>
      cases hw : Region.wanted o (yielded ops t2) with
      | true => exact lock_oper sit hS hR hT hC ho hw
      | false => exact no (by rw [ho]; exact hw)
  | .inScope _ :: kk, hT => exact absurd hT.head.1 Bool.false_ne_true
  | .inRangeFunc _ :: kk, hT => exact absurd hT.head.1 Bool.false_ne_true
  | .endRangeFunc _ :: kk, hT => exact absurd hT.head.1 Bool.false_ne_true
  | .beginRound :: kk, hT => exact absurd hT.head.1 Bool.false_ne_true
  | .call .. :: kk, hT => exact absurd hT.head.1 Bool.false_ne_true
  | .extern .. :: kk, hT => exact absurd hT.head.1 Bool.false_ne_true
  | .code c :: kk, hT =>
    have hc := tame_code hT
    have hk := hT.head.2
    match c, hc with
    | .skip, _ => exact Lock.both G_skip G_skip (st hk)
    | .ret, _ => exact Lock.both G_ret G_ret (ST.norm hS hR hT (Or.inr rfl) hC)
    | .exit id, _ =>
      cases he : exitTo id kk with
      | none => obtain ⟨o, h⟩ := G_exit_bad (p := ⟨T, f'⟩) (fn := fn) (t := t2) (cs := cs2) (w := w) id he; exact Or.inl ⟨o, w, h⟩
      | some k' => exact Lock.both (G_exit id he) (G_exit id he) (st (hk.exit he))
    | .region id ops false, hc => exact Lock.both (G_region id ops) (G_region id ops) (st (tame_cons hc hk))
    | .region id ops true, hc => exact Lock.both (G_regionDraw id ops) (G_regionDraw id ops) (st (tame_cons hc hk))
    | .seq a b, hc =>
      simp only [tameCode, Bool.and_eq_true] at hc
      exact Lock.both (G_seq a b) (G_seq a b) (st (tame_cons hc.1 (tame_cons hc.2 hk)))
    | .cond c a b, hc =>
      simp only [tameCode, Bool.and_eq_true] at hc
      have ev := hR.eval c hc.1.1 fn (.code (.cond c a b) :: kk) .run
      by_cases hb : ∃ x, (fram fn t2 (.code (.cond c a b) :: kk) .run).eval c = .bool x
      · obtain ⟨x, hx⟩ := hb
        refine Lock.both (G_cond c a b x hx) (G_cond c a b x (by rw [ev]; exact hx)) (st (tame_cons ?_ hk))
        cases x
        · exact hc.2
        · exact hc.1.2
      · obtain ⟨o, h⟩ := G_cond_bad (p := ⟨T, f'⟩) (fn := fn) (t := t2) (k := kk) (cs := cs2) (w := w) c a b fun x hx => hb ⟨x, hx⟩
        exact Or.inl ⟨o, w, h⟩
    | .block id b, hc => exact Lock.both (G_block id b) (G_block id b) (st (tame_cons hc (tame_cons rfl hk)))
    | .loop b, hc => exact Lock.both (G_loop b) (G_loop b) (st (tame_cons hc (tame_cons hc hk)))
    | .rangeFunc .., hc => exact absurd hc Bool.false_ne_true
    | .scope _, hc => exact absurd hc Bool.false_ne_true
    | .label _, hc => exact absurd hc Bool.false_ne_true
    | .goto _, hc => exact absurd hc Bool.false_ne_true
    | .refuse _, hc => exact absurd hc Bool.false_ne_true

theorem lock (sit : Sit T f f' S Fs k N gfn) {fr2 : Frame} {cs2 : List Frame} {fr1 : Frame} {cs1 : List Frame} (w : World) (h : ST T f S Fs k N l base fr2 cs2 fr1 cs1) :
    Lock T f f' S Fs k N l base fr2 cs2 fr1 cs1 w := by
  cases h with
  | norm hS hR hT hm hC =>
    rcases hm with rfl | rfl
    · exact lock_norm sit hS hR hT hC
    · next fn t2 t1 todo =>
      obtain ⟨g, c, hf, hf', hb, _, hres, _⟩ := sit.hS fn hS
      obtain ⟨v, r2, r1⟩ := results_ok hres hR ⟨T, f⟩ ⟨T, f'⟩ w
      cases hC with
      | base => exact Or.inr (Or.inr (Or.inr ⟨rfl, rfl, fn, t2, t1, todo, rfl, rfl, hS, hR⟩))
      | cons hca hcr =>
        obtain ⟨fn', t2', t1', todo', e2, e1, hS', hR', hT'⟩ := hca.finish v
        refine Lock.both (G_return hf' r2) (G_return hf r1) ?_
        rw [e2, e1]
        exact ST.norm hS' hR' hT' (Or.inl rfl) hcr
      | ext x y hca hcr => exact Lock.both (G_return hf' r2) (G_return hf r1) (ST.post x y v _ _ (Or.inl ⟨rfl, rfl⟩) hca hcr)
  | pre x y todo ht hca hcr =>
    rcases ht with rfl | rfl | rfl
    · exact Or.inr (Or.inr (Or.inl ⟨_, _, _, _, w, G_seq _ _, ST.pre x y _ (Or.inr (Or.inl rfl)) hca hcr, Or.inr ⟨rfl, rfl, rfl⟩⟩))
    · exact Or.inr (Or.inr (Or.inl ⟨_, _, _, _, w, G_region _ _, ST.pre x y _ (Or.inr (Or.inr rfl)) hca hcr, Or.inr ⟨rfl, rfl, rfl⟩⟩))
    · obtain ⟨fk, ck, hfk, hfk', hbk, htk, _, hnk⟩ := sit.hS k sit.hk
      refine Or.inr (Or.inr (Or.inl ⟨fram k (#[l, x, y] ++ Array.replicate (fk.ntmps - 3) undef) [.code ck] .run, _, _, _, w, ?_, ST.norm sit.hk (RT.refl sit.hkF _) (tame_cons htk rfl) (Or.inl rfl) (CR.ext x y hca hcr), Or.inr ⟨?_, rfl, rfl⟩⟩))
      · rw [G_oper _ _ _ (callOp k) rfl rfl, execOp_callFunc _ (callOp k) k _ _ rfl rfl, apply_enter (callFunc_enter hfk' hbk hnk _ _), enter_fram hfk' hbk]
        have em : Array.map (fram N #[x, y, l, undef] [.inRegion #[callOp k] [0], .code .ret] .run).eval #[.tmp 2, .tmp 0, .tmp 1] = #[l, x, y] := by simp [fram, Frame.eval]
        rw [em]
        rfl
      · rw [enter_fram hfk hbk]; rfl
  | post x y v todo m ht hca hcr =>
    rcases ht with ⟨rfl, rfl⟩ | ⟨rfl, rfl⟩ | ⟨rfl, rfl⟩
    · exact Or.inr (Or.inr (Or.inl ⟨_, _, _, _, w, G_inRegion_nil _, ST.post x y v _ _ (Or.inr (Or.inl ⟨rfl, rfl⟩)) hca hcr, Or.inr ⟨rfl, rfl, rfl⟩⟩))
    · exact Or.inr (Or.inr (Or.inl ⟨_, _, _, _, w, G_ret, ST.post x y v _ _ (Or.inr (Or.inr ⟨rfl, rfl⟩)) hca hcr, Or.inr ⟨rfl, rfl, rfl⟩⟩))
    · obtain ⟨fn', t2', t1', todo', e2, e1, hS', hR', hT'⟩ := hca.finish v
      have r : (results gfn #[x, y, l, v]).run ⟨T, f'⟩ w = .ok v w := results_tmp sit.hNr _ _ _
      refine Or.inr (Or.inr (Or.inl ⟨_, _, _, _, w, G_return sit.hN r, ?_, Or.inr ⟨rfl, rfl, rfl⟩⟩))
      rw [e2, e1]
      exact ST.norm hS' hR' hT' (Or.inl rfl) hcr

inductive DC : List Frame → Prop
  | base : DC [c0]
  | cons {c : Frame} {cs : List Frame} : c.defers = [] → c.mode = .run → DC cs → DC (c :: cs)

theorem CA.dc {F2 F1 : Value} {c2 c1 : Frame} (h : CA T f S Fs F2 F1 c2 c1) : c2.defers = [] ∧ c2.mode = .run := by
  obtain ⟨fn, ops, i, r, kk, t2, t1, rfl, _⟩ := h.out
  exact ⟨rfl, rfl⟩

theorem CR.dc {cs2 cs1 : List Frame} (h : CR T f S Fs k N l base cs2 cs1) : DC cs2 := by
  induction h with
  | base => exact .base
  | cons hca _ ih => exact .cons hca.dc.1 hca.dc.2 ih
  | ext x y hca _ ih => exact .cons rfl rfl (.cons hca.dc.1 hca.dc.2 ih)

theorem DC.ne {cs : List Frame} (h : DC cs) : cs ≠ [] := by cases h <;> simp

theorem step_go {p : Program} {fr fr' : Frame} {cs cs' : List Frame} {w w' : World} (h : G p fr cs w = goTo fr' cs' w') : step p (lone fr cs w) = .next (lone fr' cs' w') := step_lone_go h
theorem step_end {p : Program} {fr : Frame} {cs : List Frame} {w w' : World} {o : Outcome} (h : G p fr cs w = .ended o w') : step p (lone fr cs w) = .ended o w' := step_lone_ended h

theorem lone_inj {fr fr' : Frame} {cs cs' : List Frame} {w w' : World} (h : lone fr cs w = lone fr' cs' w') : fr = fr' ∧ cs = cs' ∧ w = w' := by
  simp only [lone, Machine.mk.injEq] at h
  have h2 := h.2.1
  simp at h2
  exact ⟨h2.1, h2.2, h.1⟩

theorem G_panicking {p : Program} {fr c : Frame} {cs : List Frame} {w : World} {chain : List PanicEntry} (hm : fr.mode = .panicking chain) (hd : fr.defers = []) :
    (∃ o w', G p fr (c :: cs) w = .ended o w') ∨ G p fr (c :: cs) w = goTo (c.raise chain) cs w := by
  cases hc : fr.catches p with
  | true => left; simp [G, stepG, unwind, hm, hd, hc]
  | false => right; simp [G, goTo, stepG, unwind, hm, hd, hc]

theorem G_panicking_nil {p : Program} {fr : Frame} {cs : List Frame} {w : World} {chain : List PanicEntry} (hm : fr.mode = .panicking chain) (hd : fr.defers = [{ target := .nil, args := #[] }]) :
    ∃ o w', G p fr cs w = .ended o w' := by
  simp [G, stepG, unwind, hm, hd, callDeferred]

theorem doomed {q : Program} {frE : Frame} {wE : World} (hE : frE.mode = .returning) : ∀ n fr cs w chain, fr.mode = .panicking chain → ((fr.defers = [] ∧ DC cs) ∨ fr.defers = [{ target := .nil, args := #[] }]) → runN q n (lone fr cs w) ≠ .next (lone frE [c0] wE) := by
  intro n
  induction n with
  | zero =>
    intro fr cs w chain hm _ h
    simp only [runN, Stepped.next.injEq] at h
    have := (lone_inj h).1
    rw [this, hE] at hm
    cases hm
  | succ n ih =>
    intro fr cs w chain hm hd h
    simp only [runN] at h
    rcases hd with ⟨hd, hdc⟩ | hd
    · cases hdc with
      | base =>
        rcases G_panicking (p := q) (c := c0) (cs := []) (w := w) hm hd with ⟨o, w', e⟩ | e
        · rw [step_end e] at h; cases h
        · rw [step_go e] at h
          exact ih _ _ _ chain rfl (Or.inr rfl) h
      | cons hc1 hc2 hdc =>
        next c cs =>
        rcases G_panicking (p := q) (c := c) (cs := cs) (w := w) hm hd with ⟨o, w', e⟩ | e
        · rw [step_end e] at h; cases h
        · rw [step_go e] at h
          exact ih _ _ _ chain (by simp [Frame.raise, hc2]) (Or.inl ⟨by simp [Frame.raise, hc1, hc2], hdc⟩) h
    · obtain ⟨o, w', e⟩ := G_panicking_nil (p := q) (cs := cs) (w := w) hm hd
      rw [step_end e] at h; cases h

theorem G_c0 {q : Program} {w : World} : ∃ o w', G q c0 [] w = .ended o w' := by
  simp [G, stepG, stepG.exec, c0]

/-- THE SECOND RUN's WAY IS THE FIRST ONE's. -/
theorem sim (sit : Sit T f f' S Fs k N gfn) {frE : Frame} {wE : World} (hE : frE.mode = .returning) : ∀ n fr2 cs2 fr1 cs1 w, ST T f S Fs k N l base fr2 cs2 fr1 cs1 → runN ⟨T, f'⟩ n (lone fr2 cs2 w) = .next (lone frE [c0] wE) →
    ∃ fn t2 t1 todo, frE = fram fn t2 todo .returning ∧ S fn = true ∧ RT (Fs fn) (V2 N l) (V1 k l) t2 t1 ∧ Steps ⟨T, f⟩ (lone fr1 cs1 w) (lone (fram fn t1 todo .returning) base wE) := by
  intro n
  induction n with
  | zero =>
    intro fr2 cs2 fr1 cs1 w hst h
    simp only [runN, Stepped.next.injEq] at h
    obtain ⟨e1, e2, e3⟩ := lone_inj h
    subst e1 e3
    cases hst with
    | norm hS hR hT hm hC =>
      rcases hm with rfl | rfl
      · cases hE
      · cases hC with
        | base => exact ⟨_, _, _, _, rfl, hS, hR, Steps.refl _ _⟩
        | cons hca hcr => cases e2; exact absurd rfl hcr.dc.ne
        | ext x y hca hcr => cases e2
    | pre x y todo ht hca hcr => cases e2; exact absurd rfl hcr.dc.ne
    | post x y v todo m ht hca hcr => cases e2; exact absurd rfl hcr.dc.ne
  | succ n ih =>
    intro fr2 cs2 fr1 cs1 w hst h
    simp only [runN] at h
    have hdc : DC cs2 := by
      cases hst with
      | norm _ _ _ _ hC => exact hC.dc
      | pre _ _ _ _ hca hcr => exact .cons hca.dc.1 hca.dc.2 hcr.dc
      | post _ _ _ _ _ _ hca hcr => exact .cons hca.dc.1 hca.dc.2 hcr.dc
    rcases lock sit w hst with ⟨o, w', e⟩ | ⟨chain, w', e, fn, t, todo, rfl⟩ | ⟨fr2', cs2', fr1', cs1', w', e, hst', h1⟩ | ⟨rfl, rfl, fn, t2, t1, todo, rfl, rfl, hS, hR⟩
    · rw [step_end e] at h; cases h
    · rw [step_go e] at h
      exact absurd h (doomed hE n _ _ _ chain rfl (Or.inl ⟨rfl, hdc⟩))
    · rw [step_go e] at h
      obtain ⟨fn, t2, t1, todo, a, b, c, d⟩ := ih _ _ _ _ _ hst' h
      refine ⟨fn, t2, t1, todo, a, b, c, ?_⟩
      rcases h1 with h1 | ⟨rfl, rfl, rfl⟩
      · exact Steps.head (step_go h1) d
      · exact d
    · obtain ⟨g, c, hf, hf', hb, _, hres, _⟩ := sit.hS fn hS
      obtain ⟨v, r2, _⟩ := results_ok hres hR ⟨T, f⟩ ⟨T, f'⟩ w
      have e := G_return (p := ⟨T, f'⟩) (todo := todo) (c := c0) (cs := []) hf' r2
      rw [step_go e] at h
      cases n with
      | zero =>
        simp only [runN, Stepped.next.injEq] at h
        have := (lone_inj h).2.1
        cases this
      | succ n =>
        simp only [runN] at h
        obtain ⟨o, w', e'⟩ := G_c0 (q := ⟨T, f'⟩) (w := w)
        have e0 : c0.finish v = c0 := rfl
        rw [e0, step_end e'] at h
        cases h

/-- THE CONTRACT, HANDED OVER. -/
theorem calls_swap (sit : Sit T f f' S Fs k N gfn) {g : FuncId} (hg : S g = true) {args2 args1 : Array Value} (hsz : args1.size = args2.size) (hargs : ∀ n, RT (Fs g) (V2 N l) (V1 k l) (args2 ++ Array.replicate n undef) (args1 ++ Array.replicate n undef))
    {w : World} {R : Ending → World → Prop} (hR : ∀ e w', R e w' → ∃ v, e = .returned v) (h : Calls ⟨T, f'⟩ g args2 w R) : Calls ⟨T, f⟩ g args1 w R := by
  intro cs
  obtain ⟨e, w', fr, hr, hc, hfn, hl⟩ := h [c0]
  obtain ⟨v, rfl⟩ := hR e w' hr
  obtain ⟨n, hn⟩ := hc
  obtain ⟨hm, hd, hk', fnr, hf, hres⟩ := hl
  obtain ⟨gf, c, hgf, hgf', hb, ht, hrs, _⟩ := sit.hS g hg
  rw [enter_fram hgf' hb] at hn
  have hst : ST T f S Fs k N l cs (fram g (args2 ++ Array.replicate (gf.ntmps - args2.size) undef) [.code c] .run) [c0] (fram g (args1 ++ Array.replicate (gf.ntmps - args2.size) undef) [.code c] .run) cs :=
    ST.norm hg (hargs _) (tame_cons ht rfl) (Or.inl rfl) CR.base
  obtain ⟨fn, t2, t1, todo, rfl, hS', hRT, hs⟩ := sim sit hm n _ _ _ _ _ hst hn
  have hfn' : fn = g := hfn
  subst hfn'
  have e2 : fnr = gf := by
    have : f'[fn]? = some fnr := hf
    rw [hgf'] at this
    cases this; rfl
  subst e2
  obtain ⟨v', r2, r1⟩ := results_ok hrs hRT ⟨T, f⟩ ⟨T, f'⟩ w'
  have e3 : v' = v := by
    have : (results fnr t2).run ⟨T, f'⟩ w' = .ok v w' := hres
    rw [r2] at this
    cases this; rfl
  subst e3
  refine ⟨_, w', fram fn t1 todo .returning, hr, ?_, rfl, rfl, rfl, rfl, fnr, hgf, r1⟩
  rw [enter_fram hgf hb, hsz]
  exact hs

#print axioms calls_swap
end Go.Proofs.Ytdbjfginigekbaa
