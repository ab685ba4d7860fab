/- A bank that came in; what Made makes of it. -/
import Derived.Test.YtiehbbhjpcnbnaaGreatSG
namespace Go.Proofs.YtiehbbhjpcnbnaaGreat
open Go.RowKit
set_option linter.unusedVariables false

/-- a row of instructions that is read -/
def DlRow (w : World) (p : Option Addr) (len : Nat) (ds : List Dd.Dl) : Prop :=
  ds.length = len ∧ (∀ d ∈ ds, d.In) ∧ (len = 0 ∨ ∃ b off, p = some ⟨b, off, none⟩ ∧ b < w.heap.size ∧ ∀ i d, ds[i]? = some d → w.cell? ⟨b, off + i * 7, none⟩ = some (.int .i64 d.id) ∧ w.cell? ⟨b, off + i * 7 + 1, none⟩ = some (.int .i64 d.a) ∧ w.cell? ⟨b, off + i * 7 + 2, none⟩ = some (.int .i64 d.b) ∧ w.cell? ⟨b, off + i * 7 + 3, none⟩ = some (.int .i64 d.sc) ∧ w.cell? ⟨b, off + i * 7 + 4, none⟩ = some (.int .i64 d.bc) ∧ w.cell? ⟨b, off + i * 7 + 5, none⟩ = some (.int .i64 d.s) ∧ w.cell? ⟨b, off + i * 7 + 6, none⟩ = some (.int .i64 d.t))
theorem DlRow.kept {w w' : World} {p : Option Addr} {len : Nat} {ds : List Dd.Dl} (h : DlRow w p len ds) (hb : Below w.heap.size w w') : DlRow w' p len ds := by
  obtain ⟨h1, h2, h3⟩ := h
  refine ⟨h1, h2, h3.imp id ?_⟩
  rintro ⟨b, off, rfl, hlt, hc⟩
  refine ⟨b, off, rfl, Nat.lt_of_lt_of_le hlt hb.size, fun i d hd => ?_⟩
  have k : ∀ o, w'.cell? ⟨b, o, none⟩ = w.cell? ⟨b, o, none⟩ := fun o => hb.cell (p := ⟨b, o, none⟩) hlt
  rw [k, k, k, k, k, k, k]
  exact hc i d hd
/-- a bank that came in -/
structure BV where
  p1 : Option Addr
  n1 : Nat
  c1 : Nat
  cs : List Cur
  p2 : Option Addr
  n2 : Nat
  c2 : Nat
  ls : List LV
  p3 : Option Addr
  n3 : Nat
  c3 : Nat
  ds : List Dd.Dl
  p4 : Option Addr
  n4 : Nat
  c4 : Nat
  ps : List Pst
def BV.val (x : BV) : Value := .agg #[.slice x.p1 x.n1 x.c1, .slice x.p2 x.n2 x.c2, .slice x.p3 x.n3 x.c3, .slice x.p4 x.n4 x.c4]
structure BV.In (x : BV) (w : World) : Prop where
  t : Tab w x.p1 x.n1 x.cs
  l : LRow w x.p2 x.n2 x.ls
  d : DlRow w x.p3 x.n3 x.ds
  i : PRow w x.p4 x.n4 x.ps
theorem BV.In.kept {x : BV} {w w' : World} (h : x.In w) (hb : Below w.heap.size w w') : x.In w' := ⟨h.t.kept hb, h.l.kept hb, h.d.kept hb, h.i.kept hb⟩
def inS (g : GM) (ps : List Pst) : GM := ps.foldl (fun g q => (g.inn q.m q.c q.a).2) g
def subS (b : Dd.Bk) (ds : List Dd.Dl) : Dd.Bk := ds.foldl (fun b d => ((b.sub d).2.sub d.mir).2) b
theorem inS_take {g : GM} {ps : List Pst} {k : Nat} (h : k < ps.length) : inS g (ps.take (k + 1)) = ((inS g (ps.take k)).inn ps[k].m ps[k].c ps[k].a).2 := by
  unfold inS; rw [List.take_succ_eq_append_getElem h, List.foldl_append]; rfl
theorem subS_take {b : Dd.Bk} {ds : List Dd.Dl} {k : Nat} (h : k < ds.length) : subS b (ds.take (k + 1)) = (((subS b (ds.take k)).sub ds[k]).2.sub ds[k].mir).2 := by
  unfold subS; rw [List.take_succ_eq_append_getElem h, List.foldl_append]; rfl
structure BV.Good (x : BV) : Prop where
  d : x.n3 ≤ 30
  i : x.n4 ≤ 30
  t : x.n1 ≤ 8
  l : x.n2 ≤ 16
  new : newOk (x.n2 : Int) (x.n1 : Int) = true
  chk : chkT x.cs = 0
  lim : limsOk x.ls x.n2 x.n1 = true
noncomputable def BV.st0 (x : BV) : ST := ⟨newGM (LM.new x.n2 x.n1) x.cs x.ls, ⟨x.n2, x.n1, [], 0⟩⟩
noncomputable def BV.st (x : BV) : ST := ⟨inS x.st0.g x.ps, subS x.st0.b x.ds⟩
/-- what Made makes -/
def MadeO (x : BV) (w : World) (e : Ending) (w' : World) : Prop :=
  (x.Good → ∃ c, e = .returned (.tuple #[.pointer (some ⟨c.gb, 0, none⟩), .pointer (some ⟨c.kb, 0, none⟩)]) ∧ PS (fun j => j < w.heap.size) c x.st w') ∧
  (¬ x.Good → e = .returned (.tuple #[.pointer none, .pointer none])) ∧ Below w.heap.size w w'

theorem judge_l (g : GM) : g.judge.l = g.l ∧ g.judge.cs = g.cs := ⟨rfl, rfl⟩
/-- they have just been made -/
theorem PS.made {W0 W1 W2 W3 : World} {lb kb gb b gL cL gF cF : Nat} {l : LM} {cs : List Cur} {ls : List LV} {H S : Nat → Prop} {bk : Dd.Bk} (hb1 : Below W0.heap.size W0 W1) (hb2 : Below W1.heap.size W1 W2) (hP : Dd.PB (fun j => W1.heap.size ≤ j) W2 kb bk)
    (hM : MadeG (fun j => j < W0.heap.size ∨ (W1.heap.size ≤ j ∧ j < W2.heap.size)) l cs ls lb gb b gL cL gF cF H S W2 W3) (hK : Kp (fun j => ¬ (j < W0.heap.size ∨ (W1.heap.size ≤ j ∧ j < W2.heap.size))) W2 W3) (hb : bk.Ok) (h1 : bk.mem = l.nm) (h2 : bk.cur = l.nc) :
    PS (fun j => j < W0.heap.size) ⟨S, gb, lb, b, gL, cL, gF, cF, kb⟩ ⟨newGM l cs ls, bk⟩ W3 := by
  have s1 := hb1.size
  have s2 := hb2.size
  have s3 := hK.size
  have hfx : ∀ j, (j < W0.heap.size ∨ (W1.heap.size ≤ j ∧ j < W2.heap.size)) → Fx H S gb gL gF j := fun j hj => by
    have a := hM.sub j hj
    have f := hM.fresh
    refine ⟨a.1, ?_, ?_, a.2, fun e => ?_⟩
    · omega
    · omega
    · have := f.2.2 j e; omega
  refine ⟨⟨H, fun j => W1.heap.size ≤ j ∧ j < W2.heap.size, hM.gg, (Dd.PB.live kb bk).kept ((Dd.PB.live kb bk).weak hP fun j hj hp => ⟨hp, hj⟩) (kp_in hK) (fun j hj hp hf => hf (.inr hp)), fun j hj => ⟨hfx j (.inr hj), by omega⟩, fun j hj => ⟨hfx j (.inl hj), fun e => by omega⟩⟩, ⟨hM.gg.ok, hb, h1, h2⟩⟩
end Go.Proofs.YtiehbbhjpcnbnaaGreat
