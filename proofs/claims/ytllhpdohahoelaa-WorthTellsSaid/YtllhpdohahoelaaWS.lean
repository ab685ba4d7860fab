/- A ledger, worths, the reference's ledger, what was told of it, and a table: what each step keeps.
  The law's last loop, apart: what the program tells is what the document says.
  The law's state. -/
import Derived.Test.YtllhpdohahoelaaWO
import Derived.Test.YtllhpdohahoelaaNR1
import Derived.Test.YtllhpdohahoelaaLJ2
namespace Go.Proofs.Ytllhpdohahoelaa
open Go.RowKit
set_option linter.unusedVariables false

theorem RL.kept {P F : Nat → Prop} {w w' : World} {b : Nat} {l : LM} (h : RL P w b l) (hK : Kp F w w') (hF : ∀ j, j < w.heap.size → P j → ¬ F j) : RL P w' b l := by
  obtain ⟨gB, cB, gN, cN, g, cp, h⟩ := h
  exact ⟨gB, cB, gN, cN, g, cp, h.kept fun j hj hp => hK.block j hj (hF j hj hp)⟩
theorem RL.weak {P Q : Nat → Prop} {w : World} {b : Nat} {l : LM} (h : RL P w b l) (hq : ∀ j, j < w.heap.size → P j → Q j) : RL Q w b l := by
  obtain ⟨gB, cB, gN, cN, g, cp, h⟩ := h
  obtain ⟨cs, h1, h2⟩ := h.rows
  exact ⟨gB, cB, gN, cN, g, cp, h.obj, ⟨cs, h1, h2⟩, h.nos, h.bal, h.apart, hq _ (obj_lt h.obj) h.own.1, hq _ (obj_lt h1) h.own.2.1, hq _ h.nos.lt h.own.2.2.1, fun m hm => hq _ (h.bal m hm).lt (h.own.2.2.2 m hm)⟩
/-- what doesn't touch worths or their ledger -/
theorem WSt.aside {G F : Nat → Prop} {lb b : Nat} {l : LM} {x : WM} {w w' : World} (h : WSt G lb b l x w) (hK : Kp F w w') (hF : ∀ j, j < w.heap.size → F j → G j) : WSt (fun j => G j ∨ (w.heap.size ≤ j ∧ j < w'.heap.size)) lb b l x w' := by
  obtain ⟨⟨PF, RF, hX, hY, h1, h2⟩, hg, hl⟩ := h
  refine ⟨⟨PF, RF, (WP.live b lb x).kept hX hK fun j hj hp hf => (h1 j hp).2.1 (hF j hj hf), (PL.live lb l).kept hY hK fun j hj hp hf => (h2 j hp).1 (hF j hj hf), fun j hj => ⟨(h1 j hj).1, fun hg => ?_, Nat.lt_of_lt_of_le (h1 j hj).2.2 hK.size⟩, fun j hj => ⟨fun hg => ?_, Nat.lt_of_lt_of_le (h2 j hj).2 hK.size⟩⟩, hg, fun j hj => ?_⟩
  · rcases hg with hg | hg
    · exact (h1 j hj).2.1 hg
    · have := (h1 j hj).2.2; omega
  · rcases hg with hg | hg
    · exact (h2 j hj).1 hg
    · have := (h2 j hj).2; omega
  · rcases hj with hj | hj
    · exact Nat.lt_of_lt_of_le (hl j hj) hK.size
    · exact hj.2
theorem Tab.moved {w w' : World} {p : Option Addr} {len g off : Nat} {cs : List Cur} (h : Tab w p len cs) (e : p = some ⟨g, off, none⟩) (hs : w.heap.size ≤ w'.heap.size) (hb : w'.heap[g]? = w.heap[g]?) : Tab w' p len cs := by
  obtain ⟨h1, h2, h3, h4⟩ := h
  refine ⟨h1, h2, h3, h4.imp id ?_⟩
  rintro ⟨b, o, e2, hlt, hc⟩
  rw [e] at e2
  injection e2 with e2
  injection e2 with e3 e4
  subst e3; subst e4
  refine ⟨g, off, e, Nat.lt_of_lt_of_le hlt hs, fun i hi => ?_⟩
  obtain ⟨c0, c1, c2⟩ := hc i hi
  exact ⟨(World.cell?_of_block (w := w) hb).trans c0, (World.cell?_of_block (w := w) hb).trans c1, (World.cell?_of_block (w := w) hb).trans c2⟩
theorem Tab.lt {w : World} {p : Option Addr} {len g off : Nat} {cs : List Cur} (h : Tab w p len cs) (e : p = some ⟨g, off, none⟩) (h0 : 0 < len) : g < w.heap.size := by
  obtain ⟨_, _, _, h4⟩ := h
  obtain ⟨b, o, e2, hlt, _⟩ := h4.resolve_left (by omega)
  rw [e] at e2
  injection e2 with e2
  injection e2 with e3 e4
  subst e3; exact hlt

/-- all that the law holds, by blocks: KF is what the program's operations let be -/
structure TGv (B : Nat → Prop) (lb b rb sb : Nat) (l : LM) (x : WM) (lr ls : LM) (p : Option Addr) (cs : List Cur) (KF RF SF : Nat → Prop) (wr : World) : Prop where
  a : WSt KF lb b l x wr
  base : ∀ j, B j → KF j
  r : RL RF wr rb lr
  s : RL SF wr sb ls
  rk : ∀ j, RF j → KF j ∧ ¬ B j
  sk : ∀ j, SF j → KF j ∧ ¬ B j
  rs : ∀ j, RF j → ¬ SF j
  t : Tab wr p cs.length cs
  tn : 0 < cs.length
  tk : ∃ g off, p = some ⟨g, off, none⟩ ∧ KF g ∧ ¬ RF g ∧ ¬ SF g
  lo : lr.Ok
  so : ls.Ok
def TG (B : Nat → Prop) (lb b rb sb : Nat) (l : LM) (x : WM) (lr ls : LM) (p : Option Addr) (cs : List Cur) (wr : World) : Prop := ∃ KF RF SF, TGv B lb b rb sb l x lr ls p cs KF RF SF wr
section
variable {B : Nat → Prop} {wr w' : World} {lb b rb sb : Nat} {l : LM} {x : WM} {lr ls : LM} {p : Option Addr} {cs : List Cur}
theorem TG.below (h : TG B lb b rb sb l x lr ls p cs wr) (hb : Below wr.heap.size wr w') : TG B lb b rb sb l x lr ls p cs w' := by
  obtain ⟨KF, RF, SF, h⟩ := h
  have k := Kp.of_below (F := fun _ => False) hb
  exact ⟨KF, RF, SF, h.a.below hb, h.base, h.r.kept k (fun _ _ _ h => h), h.s.kept k (fun _ _ _ h => h), h.rk, h.sk, h.rs, h.t.kept hb, h.tn, h.tk, h.lo, h.so⟩
/-- the program's operation -/
theorem TG.dow {o : WOp} (h : TG B lb b rb sb l x lr ls p cs wr) (ho : o.Ok wr) (hlen : o.len ≤ 30) (hn : x.nm ≤ 16) :
    Calls Try.prog 13 #[.pointer (some ⟨lb, 0, none⟩), .pointer (some ⟨b, 0, none⟩), .int .i64 (x.nm : Int), .agg o.arr] wr fun e w' => e = .returned (.int .i64 (opW l x o).1) ∧ TG B lb b rb sb (opW l x o).2.1 (opW l x o).2.2 lr ls p cs w' ∧ Kp (fun j => ¬ B j) wr w' := by
  obtain ⟨KF, RF, SF, h⟩ := h
  refine (dow_any o wr h.a ho hlen hn).mono ?_
  rintro e w' ⟨he, hs, hK⟩
  obtain ⟨g, off, ep, tg⟩ := h.tk
  refine ⟨he, ⟨KF, RF, SF, hs, h.base, h.r.kept hK (fun j _ hj hf => hf (h.rk j hj).1), h.s.kept hK (fun j _ hj hf => hf (h.sk j hj).1), h.rk, h.sk, h.rs,
    h.t.moved ep hK.size (hK.block g (h.t.lt ep h.tn) (fun hf => hf tg.1)), h.tn, ⟨g, off, ep, tg⟩, h.lo, h.so⟩, hK.mono fun j _ hf hb => hf (h.base j hb)⟩
/-- the reference's ledger has changed -/
theorem TGv.rdid {KF RF SF : Nat → Prop} {lr' : LM} (h : TGv B lb b rb sb l x lr ls p cs KF RF SF wr) (hr : RL (fun j => RF j ∨ wr.heap.size ≤ j) w' rb lr') (hK : Kp (fun j => RF j ∨ wr.heap.size ≤ j) wr w') (ho : lr'.Ok) : TG B lb b rb sb l x lr' ls p cs w' ∧ Kp (fun j => ¬ B j) wr w' := by
  have hlt := h.a.lt
  obtain ⟨g, off, ep, tg⟩ := h.tk
  have hgl := h.t.lt ep h.tn
  refine ⟨⟨fun j => KF j ∨ (wr.heap.size ≤ j ∧ j < w'.heap.size), fun j => (RF j ∨ wr.heap.size ≤ j) ∧ j < w'.heap.size, SF, h.a.aside hK (fun j hj hf => ?_), fun j hj => .inl (h.base j hj), hr.weak (fun j hj hp => ⟨hp, hj⟩), h.s.kept hK (fun j hj hs hf => ?_), fun j hj => ?_, fun j hj => ⟨.inl (h.sk j hj).1, (h.sk j hj).2⟩, fun j hj hs => ?_,
    h.t.moved ep hK.size (hK.block g hgl fun hf => ?_), h.tn, ⟨g, off, ep, .inl tg.1, fun hf => ?_, tg.2.2⟩, ho, h.so⟩, hK.mono fun j hj hf hb => hf.elim (fun hf => (h.rk j hf).2 hb) (fun hf => by omega)⟩
  · rcases hf with hf | hf
    · exact (h.rk j hf).1
    · omega
  · rcases hf with hf | hf
    · exact h.rs j hf hs
    · omega
  · rcases hj.1 with hf | hf
    · exact ⟨.inl (h.rk j hf).1, (h.rk j hf).2⟩
    · exact ⟨.inr ⟨hf, hj.2⟩, fun hb => by have := hlt j (h.base j hb); omega⟩
  · rcases hj.1 with hf | hf
    · exact h.rs j hf hs
    · have := hlt j (h.sk j hs).1; omega
  · rcases hf with hf | hf
    · exact tg.2.1 hf
    · omega
  · rcases hf.1 with hf | hf
    · exact tg.2.1 hf
    · omega
theorem TG.rinn (h : TG B lb b rb sb l x lr ls p cs wr) (hg : lr.Good) (m c a : Int) (ha : In64 a) : Calls Try.prog 14 #[.pointer (some ⟨rb, 0, none⟩), .int .i64 m, .int .i64 c, .int .i64 a] wr fun e w' => e = .returned (.int .i64 (lr.inn m c a).1) ∧ TG B lb b rb sb l x (lr.inn m c a).2 ls p cs w' ∧ Kp (fun j => ¬ B j) wr w' := by
  obtain ⟨KF, RF, SF, h⟩ := h
  refine (innRL_any m c a wr (h.r.weak (Q := fun j => RF j ∨ wr.heap.size ≤ j) fun j _ hj => .inl hj) h.lo ha).mono ?_
  rintro e w' ⟨he, hr, hK⟩
  exact ⟨he, h.rdid hr hK (inn_good hg m c a).1.ok⟩
theorem TG.rpost (h : TG B lb b rb sb l x lr ls p cs wr) (hg : lr.Good) (q : Option Addr) (len cap : Nat) (ps : List Pst) (hrow : PRow wr q len ps) (hlen : len ≤ 30) : Calls Try.prog 15 #[.pointer (some ⟨rb, 0, none⟩), .slice q len cap] wr fun e w' => e = .returned (.int .i64 (lr.post ps).1) ∧ TG B lb b rb sb l x (lr.post ps).2 ls p cs w' ∧ Kp (fun j => ¬ B j) wr w' := by
  obtain ⟨KF, RF, SF, h⟩ := h
  refine (postRL_any q len cap ps wr (h.r.weak (Q := fun j => RF j ∨ wr.heap.size ≤ j) fun j _ hj => .inl hj) h.lo hrow hlen (fun i hi => .inr hi)).mono ?_
  rintro e w' ⟨he, hr, hK⟩
  exact ⟨he, h.rdid hr hK (post_good hg ps).1.ok⟩
/-- something new is made -/
theorem TGv.fresh {KF RF SF : Nat → Prop} (h : TGv B lb b rb sb l x lr ls p cs KF RF SF wr) (hb : Below wr.heap.size wr w') : TGv B lb b rb sb l x lr ls p cs (fun j => KF j ∨ (wr.heap.size ≤ j ∧ j < w'.heap.size)) RF SF w' := by
  have k := Kp.of_below (F := fun _ => False) hb
  obtain ⟨g, off, ep, tg⟩ := h.tk
  exact ⟨h.a.aside k (fun _ _ hf => hf.elim), fun j hj => .inl (h.base j hj), h.r.kept k (fun _ _ _ h => h), h.s.kept k (fun _ _ _ h => h), fun j hj => ⟨.inl (h.rk j hj).1, (h.rk j hj).2⟩, fun j hj => ⟨.inl (h.sk j hj).1, (h.sk j hj).2⟩, h.rs, h.t.kept hb, h.tn, ⟨g, off, ep, .inl tg.1, tg.2⟩, h.lo, h.so⟩
theorem TGv.copied {KF RF SF : Nat → Prop} {sb' : Nat} (h : TGv B lb b rb sb l x lr ls p cs KF RF SF wr) (hb : Below wr.heap.size wr w') (hs : RL (fun j => wr.heap.size ≤ j) w' sb' lr) : TG B lb b rb sb' l x lr lr p cs w' := by
  have hf := h.fresh hb
  obtain ⟨g, off, ep, tg⟩ := h.tk
  have hgl := h.t.lt ep h.tn
  have hlt := h.a.lt
  exact ⟨_, RF, fun j => wr.heap.size ≤ j ∧ j < w'.heap.size, hf.a, hf.base, hf.r, hs.weak (fun j hj hp => ⟨hp, hj⟩), hf.rk, fun j hj => ⟨.inr hj, fun hb => by have := hlt j (h.base j hb); omega⟩, fun j hj hs => by have := hlt j (h.rk j hj).1; omega, hf.t, hf.tn, ⟨g, off, ep, .inl tg.1, tg.2.1, fun hs => by omega⟩, hf.lo, hf.lo⟩
theorem TG.copy (h : TG B lb b rb sb l x lr ls p cs wr) : Calls Try.prog 12 #[.pointer (some ⟨rb, 0, none⟩)] wr fun e w' => ∃ sb', e = .returned (.pointer (some ⟨sb', 0, none⟩)) ∧ TG B lb b rb sb' l x lr lr p cs w' ∧ Below wr.heap.size wr w' := by
  obtain ⟨KF, RF, SF, h⟩ := h
  refine (copyRL_any wr h.r h.lo).mono ?_
  rintro e w' ⟨b', he, hs, hb⟩
  exact ⟨b', he, h.copied hb hs, hb⟩
/-- a member's row of what was told is the reference's now -/
def LM.put (ls lr : LM) (m : Nat) : LM := ⟨ls.nm, ls.nc, fun a => if a = m then lr.B m else ls.B a, ls.N⟩
theorem TGv.put {KF RF SF : Nat → Prop} {gB cB gN cN : Nat} {g cp : Nat → Nat} {m g' c' : Nat} (h : TGv B lb b rb sb l x lr ls p cs KF RF SF wr) (hs : RLv SF wr sb ls gB cB gN cN g cp) {w1 : World} (hb : Below wr.heap.size wr w1) (hm : m < ls.nm) (hg : wr.heap.size ≤ g') (hI : IR w1 g' (lr.B m) ls.nc)
    (hn : ls.nm = lr.nm ∧ ls.nc = lr.nc) : TG B lb b rb sb l x lr (ls.put lr m) p cs (w1.setCell ⟨gB, m, none⟩ (.slice (some ⟨g', 0, none⟩) ls.nc c')) ∧ Kp (fun j => ¬ B j) wr (w1.setCell ⟨gB, m, none⟩ (.slice (some ⟨g', 0, none⟩) ls.nc c')) := by
  have hf := h.fresh hb
  have hlt := h.a.lt
  obtain ⟨tg, toff, ep, tk⟩ := h.tk
  have hgl := h.t.lt ep h.tn
  have hs1 : RLv SF w1 sb ls gB cB gN cN g cp := hs.kept fun j hj _ => hb.block j hj
  obtain ⟨rs, hr1, hr2⟩ := hs1.rows
  have hgBl : gB < wr.heap.size := by obtain ⟨rs', h1, _⟩ := hs.rows; exact obj_lt h1
  have hK : Kp (fun j => j = gB) w1 (w1.setCell ⟨gB, m, none⟩ (.slice (some ⟨g', 0, none⟩) ls.nc c')) := (Kp.refl (fun j => j = gB) w1).setCell (p := ⟨gB, m, none⟩) (.inl rfl) _
  have hg'l := hI.lt
  have hne : ∀ j, j < wr.heap.size → j ≠ g' := fun j hj e => by omega
  have hsetr := obj_set hr1 m (.slice (some ⟨g', 0, none⟩) ls.nc c')
  have hty : ∀ {q n f}, IR w1 q f n → q ≠ gB := fun hq => by obtain ⟨cq, hq1, _⟩ := hq; exact obj_ne hq1 hr1 (by decide)
  have hb1 : sb ≠ gB := obj_ne hs1.obj hr1 (by decide)
  have hgN : g' ≠ gN := fun e => by have := hs.nos.lt; omega
  have hnew : RLv (fun j => SF j ∨ (wr.heap.size ≤ j ∧ j < w1.heap.size)) (w1.setCell ⟨gB, m, none⟩ (.slice (some ⟨g', 0, none⟩) ls.nc c')) sb (ls.put lr m) gB cB gN cN (upd g m g') (upd cp m c') := by
    refine ⟨(obj_other _ hb1).trans hs1.obj, ⟨_, hsetr, fun a ha => ?_⟩, hs1.nos.at (obj_other _ (hty hs1.nos)), fun a ha => ?_, fun a ha => ⟨?_, fun k hk hka => ?_⟩, .inl hs.own.1, .inl hs.own.2.1, .inl hs.own.2.2.1, fun a ha => ?_⟩
    · have ha' : a < ls.nm := ha
      by_cases e : a = m
      · subst e
        rw [upd_same, upd_same]
        have hsz := (Array.getElem?_eq_some_iff.1 (hr2 a ha')).1
        rw [Array.getElem?_setIfInBounds_self_of_lt hsz]
        rfl
      · rw [upd_other _ _ e, upd_other _ _ e, Array.getElem?_setIfInBounds_ne (Ne.symm e)]
        exact hr2 a ha'
    · by_cases e : a = m
      · subst e
        rw [upd_same]
        show IR _ _ (if a = a then lr.B a else ls.B a) ls.nc
        rw [if_pos rfl]
        exact hI.at (obj_other _ (hty hI))
      · rw [upd_other _ _ e]
        show IR _ _ (if a = m then lr.B m else ls.B a) ls.nc
        rw [if_neg e]
        exact (hs1.bal a ha).at (obj_other _ (hty (hs1.bal a ha)))
    · by_cases e : a = m
      · subst e; rw [upd_same]; exact hgN
      · rw [upd_other _ _ e]; exact (hs1.apart a ha).1
    · by_cases e1 : k = m
      · subst e1
        rw [upd_same, upd_other _ _ (Ne.symm hka)]
        exact Ne.symm (hne _ (hs.bal a ha).lt)
      · rw [upd_other _ _ e1]
        by_cases e2 : a = m
        · subst e2; rw [upd_same]; exact hne _ (hs.bal k hk).lt
        · rw [upd_other _ _ e2]; exact (hs1.apart a ha).2 k hk hka
    · by_cases e : a = m
      · subst e; rw [upd_same]; exact .inr ⟨hg, hg'l⟩
      · rw [upd_other _ _ e]; exact .inl (hs.own.2.2.2 a ha)
  have hgBk := h.sk gB hs.own.2.1
  have hsz : (w1.setCell ⟨gB, m, none⟩ (.slice (some ⟨g', 0, none⟩) ls.nc c')).heap.size = w1.heap.size := by simp
  have haa := hf.a.aside hK (fun j _ e => e ▸ .inl hgBk.1)
  refine ⟨⟨_, RF, _, haa, fun j hj => .inl (hf.base j hj), hf.r.kept hK (fun j _ hj e => h.rs j hj (e ▸ hs.own.2.1)), ⟨_, _, _, _, _, _, hnew⟩, fun j hj => ⟨.inl (hf.rk j hj).1, (hf.rk j hj).2⟩, fun j hj => ?_, fun j hj hs' => ?_,
    hf.t.moved ep hK.size (hK.block tg (by have := hb.size; omega) (fun e => tk.2.2 (e ▸ hs.own.2.1))), hf.tn, ⟨tg, toff, ep, .inl (.inl tk.1), tk.2.1, fun hs' => ?_⟩, hf.lo, ?_⟩, (Kp.of_below hb).then hK fun j hj e hB => hgBk.2 (e ▸ hB)⟩
  · rcases hj with hj | hj
    · exact ⟨.inl (.inl (h.sk j hj).1), (h.sk j hj).2⟩
    · exact ⟨.inl (.inr hj), fun hB => by have := hlt j (h.base j hB); omega⟩
  · rcases hs' with hs' | hs'
    · exact h.rs j hj hs'
    · have := hlt j (h.rk j hj).1; omega
  · rcases hs' with hs' | hs'
    · exact tk.2.2 hs'
    · omega
  · have ho := h.so
    have hl := h.lo
    refine ⟨ho.nm, ho.nc, fun a c => ?_, ho.n, fun a c hac => ?_, ho.nz⟩
    · show In64 ((if a = m then lr.B m else ls.B a) c)
      split
      · exact hl.b _ _
      · exact ho.b _ _
    · show (if a = m then lr.B m else ls.B a) c = 0
      split
      · rename_i e; subst e; exact hl.bz _ _ (by rw [← hn.1, ← hn.2]; exact hac)
      · exact ho.bz _ _ hac
/-- another table -/
theorem TG.tab {q : Option Addr} {ds : List Cur} {g : Nat} (h : TG B lb b rb sb l x lr ls p cs wr) (hb : Below wr.heap.size wr w') (hT : Tab w' (some ⟨g, 0, none⟩) ds.length ds) (hn : 0 < ds.length) (hg : wr.heap.size ≤ g) : TG B lb b rb sb l x lr ls (some ⟨g, 0, none⟩) ds w' := by
  obtain ⟨KF, RF, SF, h⟩ := h
  have hf := h.fresh hb
  have hlt := h.a.lt
  have hgl := hT.lt rfl hn
  exact ⟨_, RF, SF, hf.a, hf.base, hf.r, hf.s, hf.rk, hf.sk, hf.rs, hT, hn, ⟨g, 0, rfl, .inr ⟨hg, hgl⟩, fun hr => by have := hlt g (h.rk g hr).1; omega, fun hr => by have := hlt g (h.sk g hr).1; omega⟩, hf.lo, hf.so⟩
/-- more stays, or less -/
theorem TG.boxed {B' : Nat → Prop} (h : TG B lb b rb sb l x lr ls p cs wr) (hb : Below wr.heap.size wr w') (hB : ∀ j, B' j → B j ∨ (wr.heap.size ≤ j ∧ j < w'.heap.size)) : TG B' lb b rb sb l x lr ls p cs w' := by
  obtain ⟨KF, RF, SF, h⟩ := h
  have hf := h.fresh hb
  have hlt := h.a.lt
  refine ⟨_, RF, SF, hf.a, fun j hj => ?_, hf.r, hf.s, fun j hj => ⟨(hf.rk j hj).1, fun hb' => ?_⟩, fun j hj => ⟨(hf.sk j hj).1, fun hb' => ?_⟩, hf.rs, hf.t, hf.tn, hf.tk, hf.lo, hf.so⟩
  · rcases hB j hj with h1 | h1
    · exact .inl (h.base j h1)
    · exact .inr h1
  · rcases hB j hb' with h1 | h1
    · exact (h.rk j hj).2 h1
    · have := hlt j (h.rk j hj).1; omega
  · rcases hB j hb' with h1 | h1
    · exact (h.sk j hj).2 h1
    · have := hlt j (h.sk j hj).1; omega
theorem TG.less {B' : Nat → Prop} (h : TG B lb b rb sb l x lr ls p cs wr) (hB : ∀ j, B' j → B j) : TG B' lb b rb sb l x lr ls p cs wr := by
  obtain ⟨KF, RF, SF, h⟩ := h
  exact ⟨KF, RF, SF, h.a, fun j hj => h.base j (hB j hj), h.r, h.s, fun j hj => ⟨(h.rk j hj).1, fun hb => (h.rk j hj).2 (hB j hb)⟩, fun j hj => ⟨(h.sk j hj).1, fun hb => (h.sk j hj).2 (hB j hb)⟩, h.rs, h.t, h.tn, h.tk, h.lo, h.so⟩
/-- as long as nothing has been told of the reference's ledger -/
structure TPv (B : Nat → Prop) (lb b rb : Nat) (l : LM) (x : WM) (lr : LM) (p : Option Addr) (cs : List Cur) (KF RF : Nat → Prop) (wr : World) : Prop where
  a : WSt KF lb b l x wr
  base : ∀ j, B j → KF j
  r : RL RF wr rb lr
  rk : ∀ j, RF j → KF j ∧ ¬ B j
  t : Tab wr p cs.length cs
  tn : 0 < cs.length
  tk : ∃ g off, p = some ⟨g, off, none⟩ ∧ KF g ∧ ¬ RF g
  lo : lr.Ok
theorem TPv.fresh {KF RF : Nat → Prop} (h : TPv B lb b rb l x lr p cs KF RF wr) (hb : Below wr.heap.size wr w') : TPv B lb b rb l x lr p cs (fun j => KF j ∨ (wr.heap.size ≤ j ∧ j < w'.heap.size)) RF w' := by
  have k := Kp.of_below (F := fun _ => False) hb
  obtain ⟨g, off, ep, tg⟩ := h.tk
  exact ⟨h.a.aside k (fun _ _ hf => hf.elim), fun j hj => .inl (h.base j hj), h.r.kept k (fun _ _ _ h => h), fun j hj => ⟨.inl (h.rk j hj).1, (h.rk j hj).2⟩, h.t.kept hb, h.tn, ⟨g, off, ep, .inl tg.1, tg.2⟩, h.lo⟩
theorem TPv.copy {KF RF : Nat → Prop} (h : TPv B lb b rb l x lr p cs KF RF wr) : Calls Try.prog 12 #[.pointer (some ⟨rb, 0, none⟩)] wr fun e w' => ∃ sb', e = .returned (.pointer (some ⟨sb', 0, none⟩)) ∧ TG B lb b rb sb' l x lr lr p cs w' ∧ Below wr.heap.size wr w' := by
  refine (copyRL_any wr h.r h.lo).mono ?_
  rintro e w' ⟨b', he, hs, hb⟩
  have hf := h.fresh hb
  obtain ⟨g, off, ep, tg⟩ := h.tk
  have hgl := h.t.lt ep h.tn
  have hlt := h.a.lt
  exact ⟨b', he, ⟨_, RF, fun j => wr.heap.size ≤ j ∧ j < w'.heap.size, hf.a, hf.base, hf.r, hs.weak (fun j hj hp => ⟨hp, hj⟩), hf.rk, fun j hj => ⟨.inr hj, fun hb => by have := hlt j (h.base j hb); omega⟩, fun j hj hs => by have := hlt j (h.rk j hj).1; omega, hf.t, hf.tn, ⟨g, off, ep, .inl tg.1, tg.2, fun hs => by omega⟩, hf.lo, hf.lo⟩, hb⟩
/-- worths, a ledger and the reference's have been made -/
theorem TPv.made {w2 w3 w4 w5 : World} {g off : Nat} (hL : PL (fun j => w2.heap.size ≤ j) w3 lb l) (hg : l.Good) (hb3 : Below w2.heap.size w2 w3) (hR : RL (fun j => w3.heap.size ≤ j) w4 rb lr) (ho : lr.Ok) (hb4 : Below w3.heap.size w3 w4)
    (hW : WP (fun j => w4.heap.size ≤ j) w5 b lb x) (hb5 : Below w4.heap.size w4 w5) (hT : Tab w2 p cs.length cs) (hn : 0 < cs.length) (ep : p = some ⟨g, off, none⟩) :
    TPv (fun j => j < w2.heap.size) lb b rb l x lr p cs (fun j => j < w2.heap.size ∨ (w3.heap.size ≤ j ∧ j < w4.heap.size)) (fun j => w3.heap.size ≤ j ∧ j < w4.heap.size) w5 := by
  have hL4 : PL (fun j => w2.heap.size ≤ j ∧ j < w3.heap.size) w4 lb l := (PL.live lb l).kept ((PL.live lb l).weak hL (fun j hj hp => ⟨hp, hj⟩)) (Kp.of_below (F := fun _ => False) hb4) (fun _ _ _ h => h)
  have hs3 := hb3.size
  have hs4 := hb4.size
  have hgl := hT.lt ep hn
  refine ⟨WSt.made hL4 hg (fun j hj hp hg => by rcases hg with hg | hg <;> omega) (fun j hj => by rcases hj with hj | hj <;> omega) hW hb5, fun j hj => .inl hj, (hR.weak (fun j hj hp => ⟨hp, hj⟩)).kept (Kp.of_below (F := fun _ => False) hb5) (fun _ _ _ h => h), fun j hj => ⟨.inr hj, fun hb => by omega⟩, ?_, hn, ⟨g, off, ep, .inl hgl, fun hr => by omega⟩, ho⟩
  exact ((hT.kept hb3).kept (by exact hb4)).kept hb5
end
end Go.Proofs.Ytllhpdohahoelaa
namespace Go.Proofs.Ytllhpdohahoelaa
open Go.RowKit
set_option linter.unusedVariables false

/-- a part of a function's code -/
def cpath : List Nat → Code → Code
  | [], c => c
  | 0 :: r, .seq a b => cpath r a
  | 1 :: r, .seq a b => cpath r b
  | 2 :: r, .block _ c => cpath r c
  | 3 :: r, .loop c => cpath r c
  | _ :: _, c => c
def cbody : Option Code → Code
  | some c => c
  | none => .skip
/-- one round of the law's operations -/
def cround : List Nat := [1, 1, 1, 1, 1, 1, 1, 1, 1, 1, 0, 1, 2, 3, 1, 1, 0, 2]
noncomputable def cswitch : Code := cpath (cround ++ [1, 1, 1, 0, 1]) (cbody Try.f3.body)
noncomputable def cread : Code := cpath (cround ++ [1, 1, 1, 1, 1, 1]) (cbody Try.f3.body)
/-- a part's run, whatever follows -/
theorem wp_part {P : Program} {c : Code} {Q : Exit → Act → World → Prop} {a : Act} {w : World} (h : c.wp P (Exit.then (Q .normal) Q) a w) : c.wp P Q a w := by
  refine wp_mono h ?_
  intro e a' w' hq
  cases e <;> exact hq
theorem vals_of {x : WM} {ls : LM} (h : ∀ m, m < x.nm → x.S m = ls.B m) {j : Nat} (hj : j < x.nm) :
    x.net (j : Int) = netF x.cs (ls.B j) x.cs.length 0 0 ∧ x.short (j : Int) = shortF x.cs (ls.B j) x.cs.length 0 0 ∧ ∀ ps, x.iff (j : Int) ps = ifM x.cs x.cs.length (ls.B j) (j : Int) ps := by
  have e1 : x.has (j : Int) = true := by unfold WM.has; simp; omega
  have e2 := h j hj
  unfold WM.net WM.short WM.iff
  rw [e1, if_pos rfl, if_pos rfl, Int.toNat_natCast, e2]
  exact ⟨rfl, rfl, fun ps => if_pos rfl⟩
theorem none_vals {x : WM} {z : Int} (h : x.has z = false) (ps : List Pst) : x.net z = (0, 1) ∧ x.short z = (0, 1) ∧ x.iff z ps = (0, 0, 1) := by
  unfold WM.net WM.short WM.iff
  rw [h]
  exact ⟨rfl, rfl, rfl⟩
/-- what the law's last way reads -/
structure TRd (b lb sb : Nat) (x : WM) (ls : LM) (p : Option Addr) (q2 : Option Addr) (n2 : Nat) (mps : List Pst) (gB cB gN cN : Nat) (g cp : Nat → Nat) (SF : Nat → Prop) (wd wr : World) : Prop where
  wp : ∃ P, WP P wr b lb x
  s : RLv SF wr sb ls gB cB gN cN g cp
  t : Tab wr p x.cs.length x.cs
  more : PRow wr q2 n2 mps
  blw : Below wd.heap.size wd wr
theorem TRd.below {b lb sb : Nat} {x : WM} {ls : LM} {p q2 : Option Addr} {n2 : Nat} {mps : List Pst} {gB cB gN cN : Nat} {g cp : Nat → Nat} {SF : Nat → Prop} {wd wr w' : World} (h : TRd b lb sb x ls p q2 n2 mps gB cB gN cN g cp SF wd wr) (hb : Below wr.heap.size wr w') : TRd b lb sb x ls p q2 n2 mps gB cB gN cN g cp SF wd w' := by
  obtain ⟨P, hP⟩ := h.wp
  exact ⟨⟨P, hP.below hb⟩, h.s.below hb, h.t.kept hb, h.more.kept hb, h.blw.trans (hb.mono h.blw.size)⟩

set_option maxHeartbeats 8000000 in
set_option maxRecDepth 100000 in
theorem read_any {K : Act → World → Prop} {Q : Exit → Act → World → Prop} {b lb sb : Nat} {x : WM} {ls : LM} {p q2 : Option Addr} {cap n2 c3 M : Nat} {mps : List Pst} {gB cB gN cN : Nat} {g cp : Nat → Nat} {SF : Nat → Prop} {w : World}
    (hR0 : TRd b lb sb x ls p q2 n2 mps gB cB gN cN g cp SF w w) (hM1 : 1 ≤ M ∧ M ≤ 16) (hnm : x.nm = M) (hnms : ls.nm = M) (hncs : ls.nc = x.cs.length) (hpos : 1 ≤ x.cs.length) (hcl9 : x.cs.length ≤ 8) (hoob : ∀ i, i < x.cs.length → oobB (cAt x.cs i) = false) (hso : ls.Ok) (hm20 : n2 ≤ 20) (hsy : ∀ m, m < x.nm → x.S m = ls.B m)
    (u1 u2 u4 u5 u6 u7 u8 u10 u11 u12 u13 u15 u17 u18 u19 u20 u21 u22 u23 u24 u25 u26 u28 u29 u30 u31 u32 u33 u34 u35 u36 u37 u38 u39 u40 u41 u42 u43 u44 u45 u46 u47 u48 u49 u50 u51 u52 u53 u54 u55 u56 u57 u58 u59 u60 u61 u62 u63 u64 u65 u66 u67 u68 u69 u70 u71 u72 u73 u74 u75 u76 u77 u78 u79 u80 u81 u82 u83 u84 u85 u86 u87 u88 u89 u90 u91 u92 u93 u94 u95 u96 u97 u98 u99 u100 u101 u102 u103 u104 u105 u106 u107 u108 u109 u110 u111 u112 u113 u114 u115 u116 u117 u118 u119 u120 u121 u122 u123 u124 u125 u126 u127 u128 u129 u130 u131 u132 u133 u134 u135 u136 u137 u138 u139 u140 u141 u142 u143 u144 u145 u146 u147 u148 u149 u150 u151 u152 u153 u154 u155 u156 u157 u158 u159 u160 u161 u162 u163 u164 u165 u166 u167 u168 u169 u170 u171 u172 u173 u174 u175 u176 u177 u178 u179 u180 u181 u182 u183 u184 u185 u186 u187 u188 u189 u190 u191 u192 u193 u194 u195 u196 u197 u198 u199 u200 u201 u202 u203 u204 u205 u206 u207 u208 u209 u210 u211 u212 u213 u214 u215 u216 u217 u218 u219 u220 u221 u222 u223 u224 u225 u226 u227 u228 u229 u230 u231 u232 u233 u234 u235 u236 u237 u238 u239 u240 u241 u242 u243 u244 u245 u246 u247 u248 u249 u250 u251 u252 u253 u254 u255 u256 u257 u258 u259 u260 u261 u262 u263 u264 u265 u266 u267 u268 u269 u270 u271 u272 u273 u274 u275 u276 u277 u278 u279 u280 u281 u282 u283 u284 u285 u286 u287 u288 u289 u290 u291 u292 u293 u294 u295 u296 u297 u298 u299 u300 u301 u302 u303 u304 u305 u306 u307 u308 u309 u310 u311 u312 u313 u314 u315 u316 u317 u318 u319 u320 u321 u322 u323 u324 u325 u326 u327 u328 u329 u330 u331 u332 u333 u334 u335 u336 u337 u338 u339 u340 u341 u342 u343 u344 u345 u346 u347 u348 u349 u350 u351 u352 u353 u354 u355 u356 u357 u358 u359 u360 u361 u362 u363 u364 u365 u366 u367 u368 u369 u370 u371 u372 u373 u374 u375 u376 u377 u378 u379 u380 u381 u382 u383 u384 u385 u386 u387 u388 u389 u390 u391 u392 : Value)
    (hK : ∀ (v8 v27 v28 v29 v30 v31 v32 v33 v34 v35 v36 v37 v38 v39 v40 v41 v270 v271 v272 v273 v274 v275 v276 v277 v278 v279 v280 v281 v282 v283 v284 v285 v286 v287 v288 v289 v290 v291 v292 v293 v294 v295 v296 v297 v298 v299 v300 v301 v302 v303 v304 v305 v306 v307 v308 v309 v310 v311 v312 v313 v314 v315 v316 v317 v318 v319 v320 v321 v322 v323 v324 v325 v326 v327 v328 v329 v330 v331 v332 v333 v334 v335 v336 v337 v338 v339 v340 v341 v342 v343 v344 v345 v346 v347 v348 v349 v350 v351 v352 v353 v354 v355 v356 v357 v358 v359 v360 v361 v362 v363 v364 v365 v366 v367 v368 v369 v370 v371 v372 v373 v374 v375 v376 v377 v378 v379 v380 v381 v382 v383 v384 v385 v386 v387 v388 v389 v390 v391 : Value) (w' : World), Below w.heap.size w w' → K ({ tmps := (Value.slice p x.cs.length cap :: u1 :: u2 :: Value.slice q2 n2 c3 :: u4 :: u5 :: u6 :: u7 :: v8 :: .int .i64 (M : Int) :: u10 :: u11 :: u12 :: u13 :: .pointer (some ⟨b, 0, none⟩) :: u15 :: .pointer (some ⟨sb, 0, none⟩) :: u17 :: u18 :: u19 :: u20 :: u21 :: u22 :: u23 :: u24 :: u25 :: u26 :: v27 :: v28 :: v29 :: v30 :: v31 :: v32 :: v33 :: v34 :: v35 :: v36 :: v37 :: v38 :: v39 :: v40 :: v41 :: u42 :: u43 :: u44 :: u45 :: u46 :: u47 :: u48 :: u49 :: u50 :: u51 :: u52 :: u53 :: u54 :: u55 :: u56 :: u57 :: u58 :: u59 :: u60 :: u61 :: u62 :: u63 :: u64 :: u65 :: u66 :: u67 :: u68 :: u69 :: u70 :: u71 :: u72 :: u73 :: u74 :: u75 :: u76 :: u77 :: u78 :: u79 :: u80 :: u81 :: u82 :: u83 :: u84 :: u85 :: u86 :: u87 :: u88 :: u89 :: u90 :: u91 :: u92 :: u93 :: u94 :: u95 :: u96 :: u97 :: u98 :: u99 :: u100 :: u101 :: u102 :: u103 :: u104 :: u105 :: u106 :: u107 :: u108 :: u109 :: u110 :: u111 :: u112 :: u113 :: u114 :: u115 :: u116 :: u117 :: u118 :: u119 :: u120 :: u121 :: u122 :: u123 :: u124 :: u125 :: u126 :: u127 :: u128 :: u129 :: u130 :: u131 :: u132 :: u133 :: u134 :: u135 :: u136 :: u137 :: u138 :: u139 :: u140 :: u141 :: u142 :: u143 :: u144 :: u145 :: u146 :: u147 :: u148 :: u149 :: u150 :: u151 :: u152 :: u153 :: u154 :: u155 :: u156 :: u157 :: u158 :: u159 :: u160 :: u161 :: u162 :: u163 :: u164 :: u165 :: u166 :: u167 :: u168 :: u169 :: u170 :: u171 :: u172 :: u173 :: u174 :: u175 :: u176 :: u177 :: u178 :: u179 :: u180 :: u181 :: u182 :: u183 :: u184 :: u185 :: u186 :: u187 :: u188 :: u189 :: u190 :: u191 :: u192 :: u193 :: u194 :: u195 :: u196 :: u197 :: u198 :: u199 :: u200 :: u201 :: u202 :: u203 :: u204 :: u205 :: u206 :: u207 :: u208 :: u209 :: u210 :: u211 :: u212 :: u213 :: u214 :: u215 :: u216 :: u217 :: u218 :: u219 :: u220 :: u221 :: u222 :: u223 :: u224 :: u225 :: u226 :: u227 :: u228 :: u229 :: u230 :: u231 :: u232 :: u233 :: u234 :: u235 :: u236 :: u237 :: u238 :: u239 :: u240 :: u241 :: u242 :: u243 :: u244 :: u245 :: u246 :: u247 :: u248 :: u249 :: u250 :: u251 :: u252 :: u253 :: u254 :: u255 :: u256 :: u257 :: u258 :: u259 :: u260 :: u261 :: u262 :: u263 :: u264 :: u265 :: u266 :: u267 :: u268 :: u269 :: v270 :: v271 :: v272 :: v273 :: v274 :: v275 :: v276 :: v277 :: v278 :: v279 :: v280 :: v281 :: v282 :: v283 :: v284 :: v285 :: v286 :: v287 :: v288 :: v289 :: v290 :: v291 :: v292 :: v293 :: v294 :: v295 :: v296 :: v297 :: v298 :: v299 :: v300 :: v301 :: v302 :: v303 :: v304 :: v305 :: v306 :: v307 :: v308 :: v309 :: v310 :: v311 :: v312 :: v313 :: v314 :: v315 :: v316 :: v317 :: v318 :: v319 :: v320 :: v321 :: v322 :: v323 :: v324 :: v325 :: v326 :: v327 :: v328 :: v329 :: v330 :: v331 :: v332 :: v333 :: v334 :: v335 :: v336 :: v337 :: v338 :: v339 :: v340 :: v341 :: v342 :: v343 :: v344 :: v345 :: v346 :: v347 :: v348 :: v349 :: v350 :: v351 :: v352 :: v353 :: v354 :: v355 :: v356 :: v357 :: v358 :: v359 :: v360 :: v361 :: v362 :: v363 :: v364 :: v365 :: v366 :: v367 :: v368 :: v369 :: v370 :: v371 :: v372 :: v373 :: v374 :: v375 :: v376 :: v377 :: v378 :: v379 :: v380 :: v381 :: v382 :: v383 :: v384 :: v385 :: v386 :: v387 :: v388 :: v389 :: v390 :: v391 :: u392 :: []).toArray, defers := [] } : Act) w') :
    Code.wp Try.prog cread (Exit.then K Q) ({ tmps := (Value.slice p x.cs.length cap :: u1 :: u2 :: Value.slice q2 n2 c3 :: u4 :: u5 :: u6 :: u7 :: u8 :: .int .i64 (M : Int) :: u10 :: u11 :: u12 :: u13 :: .pointer (some ⟨b, 0, none⟩) :: u15 :: .pointer (some ⟨sb, 0, none⟩) :: u17 :: u18 :: u19 :: u20 :: u21 :: u22 :: u23 :: u24 :: u25 :: u26 :: .int .i64 (-1) :: u28 :: u29 :: u30 :: u31 :: u32 :: u33 :: u34 :: u35 :: u36 :: u37 :: u38 :: u39 :: u40 :: u41 :: u42 :: u43 :: u44 :: u45 :: u46 :: u47 :: u48 :: u49 :: u50 :: u51 :: u52 :: u53 :: u54 :: u55 :: u56 :: u57 :: u58 :: u59 :: u60 :: u61 :: u62 :: u63 :: u64 :: u65 :: u66 :: u67 :: u68 :: u69 :: u70 :: u71 :: u72 :: u73 :: u74 :: u75 :: u76 :: u77 :: u78 :: u79 :: u80 :: u81 :: u82 :: u83 :: u84 :: u85 :: u86 :: u87 :: u88 :: u89 :: u90 :: u91 :: u92 :: u93 :: u94 :: u95 :: u96 :: u97 :: u98 :: u99 :: u100 :: u101 :: u102 :: u103 :: u104 :: u105 :: u106 :: u107 :: u108 :: u109 :: u110 :: u111 :: u112 :: u113 :: u114 :: u115 :: u116 :: u117 :: u118 :: u119 :: u120 :: u121 :: u122 :: u123 :: u124 :: u125 :: u126 :: u127 :: u128 :: u129 :: u130 :: u131 :: u132 :: u133 :: u134 :: u135 :: u136 :: u137 :: u138 :: u139 :: u140 :: u141 :: u142 :: u143 :: u144 :: u145 :: u146 :: u147 :: u148 :: u149 :: u150 :: u151 :: u152 :: u153 :: u154 :: u155 :: u156 :: u157 :: u158 :: u159 :: u160 :: u161 :: u162 :: u163 :: u164 :: u165 :: u166 :: u167 :: u168 :: u169 :: u170 :: u171 :: u172 :: u173 :: u174 :: u175 :: u176 :: u177 :: u178 :: u179 :: u180 :: u181 :: u182 :: u183 :: u184 :: u185 :: u186 :: u187 :: u188 :: u189 :: u190 :: u191 :: u192 :: u193 :: u194 :: u195 :: u196 :: u197 :: u198 :: u199 :: u200 :: u201 :: u202 :: u203 :: u204 :: u205 :: u206 :: u207 :: u208 :: u209 :: u210 :: u211 :: u212 :: u213 :: u214 :: u215 :: u216 :: u217 :: u218 :: u219 :: u220 :: u221 :: u222 :: u223 :: u224 :: u225 :: u226 :: u227 :: u228 :: u229 :: u230 :: u231 :: u232 :: u233 :: u234 :: u235 :: u236 :: u237 :: u238 :: u239 :: u240 :: u241 :: u242 :: u243 :: u244 :: u245 :: u246 :: u247 :: u248 :: u249 :: u250 :: u251 :: u252 :: u253 :: u254 :: u255 :: u256 :: u257 :: u258 :: u259 :: u260 :: u261 :: u262 :: u263 :: u264 :: u265 :: u266 :: u267 :: u268 :: u269 :: u270 :: u271 :: u272 :: u273 :: u274 :: u275 :: u276 :: u277 :: u278 :: u279 :: u280 :: u281 :: u282 :: u283 :: u284 :: u285 :: u286 :: u287 :: u288 :: u289 :: u290 :: u291 :: u292 :: u293 :: u294 :: u295 :: u296 :: u297 :: u298 :: u299 :: u300 :: u301 :: u302 :: u303 :: u304 :: u305 :: u306 :: u307 :: u308 :: u309 :: u310 :: u311 :: u312 :: u313 :: u314 :: u315 :: u316 :: u317 :: u318 :: u319 :: u320 :: u321 :: u322 :: u323 :: u324 :: u325 :: u326 :: u327 :: u328 :: u329 :: u330 :: u331 :: u332 :: u333 :: u334 :: u335 :: u336 :: u337 :: u338 :: u339 :: u340 :: u341 :: u342 :: u343 :: u344 :: u345 :: u346 :: u347 :: u348 :: u349 :: u350 :: u351 :: u352 :: u353 :: u354 :: u355 :: u356 :: u357 :: u358 :: u359 :: u360 :: u361 :: u362 :: u363 :: u364 :: u365 :: u366 :: u367 :: u368 :: u369 :: u370 :: u371 :: u372 :: u373 :: u374 :: u375 :: u376 :: u377 :: u378 :: u379 :: u380 :: u381 :: u382 :: u383 :: u384 :: u385 :: u386 :: u387 :: u388 :: u389 :: u390 :: u391 :: u392 :: []).toArray, defers := [] } : Act) w := by
  replace hR0 := Lib.hid hR0
  replace hoob := Lib.hid hoob
  replace hso := Lib.hid hso
  replace hsy := Lib.hid hsy
  replace hK := Lib.hid hK
  conv => arg 2; whnf
  go_upto_region 49 with (fail)
  go_loopw [27] (fun i wr => ∃ z : Int, -1 ≤ z ∧ z ≤ (M : Int) + 1 ∧ i = .int .i64 z ∧ Hid (TRd b lb sb x ls p q2 n2 mps gB cB gN cN g cp SF w wr)) (fun i _ => ((M : Int) + 1 - intOf i).toNat)
  case atStart => exact ⟨-1, by omega, by omega, rfl, hR0⟩
  case round =>
    obtain ⟨z, hz0, hz9, rfl, hR⟩ := hrel
    by_cases hzm : z ≤ (M : Int)
    · have cA := fun wv (h : TRd b lb sb x ls p q2 n2 mps gB cB gN cN g cp SF w wv) => net_any z wv h.wp.choose_spec
      have cBs := fun wv (h : TRd b lb sb x ls p q2 n2 mps gB cB gN cN g cp SF w wv) => short_any z wv h.wp.choose_spec
      have cF := fun wv (h : TRd b lb sb x ls p q2 n2 mps gB cB gN cN g cp SF w wv) => if_any z q2 n2 c3 mps wv h.wp.choose_spec h.more (by omega)
      by_cases hval : 0 ≤ z ∧ z < (M : Int)
      · obtain ⟨j, rfl⟩ : ∃ j : Nat, z = j := ⟨z.toNat, by omega⟩
        obtain ⟨e1, e2, e3⟩ := vals_of hsy.out (j := j) (by omega)
        have hjm : j < ls.nm := by omega
        have hjz : (j : Int) < (M : Int) := by omega
        have hj0 : ¬ (j : Int) < 0 := by omega
        have hjM : ((j : Int) == (M : Int)) = false := by simp; omega
        have hjn : (j : Int) < (ls.nm : Int) := by omega
        have cNs := fun wv (h : TRd b lb sb x ls p q2 n2 mps gB cB gN cN g cp SF w wv) => netR_any p x.cs.length cap x.cs (g j) (cp j) (ls.B j) wv h.t (by omega) hoob.out (hncs ▸ h.s.bal j hjm) (fun c => hso.out.b j c)
        have cS := fun wv (h : TRd b lb sb x ls p q2 n2 mps gB cB gN cN g cp SF w wv) => shortR_any p x.cs.length cap x.cs (g j) (cp j) (ls.B j) wv h.t (by omega) hoob.out (hncs ▸ h.s.bal j hjm) (fun c => hso.out.b j c)
        have cI := fun wv (h : TRd b lb sb x ls p q2 n2 mps gB cB gN cN g cp SF w wv) => ifR_any p x.cs.length cap x.cs (g j) (cp j) (ls.B j) (j : Int) q2 n2 c3 mps wv h.t hpos (by omega) hoob.out (hncs ▸ h.s.bal j hjm) (fun c => hso.out.b j c) (by unfold In64; omega) h.more (by omega)
        have cR0 := fun wv (h : TRd b lb sb x ls p q2 n2 mps gB cB gN cN g cp SF w wv) => h.s.c0
        have cR1 := fun wv (h : TRd b lb sb x ls p q2 n2 mps gB cB gN cN g cp SF w wv) => h.s.row hjm
        rw [hncs] at cR1
        rw [e1] at cA
        rw [e2] at cBs
        rw [e3] at cF
        generalize netF x.cs (ls.B j) x.cs.length 0 0 = NV at *
        generalize shortF x.cs (ls.B j) x.cs.length 0 0 = SV at *
        generalize ifM x.cs x.cs.length (ls.B j) (j : Int) mps = FV at *
        obtain ⟨nv1, nv2⟩ := NV
        obtain ⟨sv1, sv2⟩ := SV
        obtain ⟨fv1, fv2, fv3⟩ := FV
        dsimp only at cA cBs cNs cS
        unfold RetM at cF cI
        dsimp only at cF cI
        clear e1 e2 e3
        replace cA := Lib.hid cA
        replace cBs := Lib.hid cBs
        replace cF := Lib.hid cF
        replace cNs := Lib.hid cNs
        replace cS := Lib.hid cS
        replace cI := Lib.hid cI
        replace cR0 := Lib.hid cR0
        replace cR1 := Lib.hid cR1
        go_wp2_with fail
        with_reducible refine (cA.out _ hR.out).mono ?_
        rintro e v1 ⟨rfl, hb1⟩
        have hR1 := Lib.hid (hR.out.below hb1)
        replace hb1 := Lib.hid hb1
        go_wp2_with fail
        with_reducible refine (cBs.out _ hR1.out).mono ?_
        rintro e v2 ⟨rfl, hb2⟩
        have hR2 := Lib.hid (hR1.out.below hb2)
        replace hb2 := Lib.hid hb2
        go_wp2_with fail
        with_reducible refine (cF.out _ hR2.out).mono ?_
        rintro e v3 ⟨rfl, hb3⟩
        have hR3 := Lib.hid (hR2.out.below hb3)
        have x30 := cR0.out _ hR3.out
        have x31 := cR1.out _ hR3.out
        replace hb3 := Lib.hid hb3
        go_wp2_with fail
        with_reducible refine (cNs.out _ hR3.out).mono ?_
        rintro e v4 ⟨rfl, hb4⟩
        have hR4 := Lib.hid (hR3.out.below hb4)
        have x40 := cR0.out _ hR4.out
        have x41 := cR1.out _ hR4.out
        replace hb4 := Lib.hid hb4
        go_wp2_with fail
        with_reducible refine (cS.out _ hR4.out).mono ?_
        rintro e v5 ⟨rfl, hb5⟩
        have hR5 := Lib.hid (hR4.out.below hb5)
        have x50 := cR0.out _ hR5.out
        have x51 := cR1.out _ hR5.out
        replace hb5 := Lib.hid hb5
        go_wp2_with fail
        with_reducible refine (cI.out _ hR5.out).mono ?_
        rintro e v6 ⟨rfl, hb6⟩
        have hR6 := Lib.hid (hR5.out.below hb6)
        replace hb6 := Lib.hid hb6
        clear x30 x31 x40 x41 x50 x51
        go_wp2_with fail
        go_roundw
        case rel => exact ⟨(j : Int) + 1, by omega, by omega, by go_num, hR6⟩
        case measure => simp [intOf]; omega
      · obtain ⟨e1, e2, e3⟩ := none_vals (x := x) (z := z) (by unfold WM.has; simp; omega) mps
        rw [e1] at cA
        rw [e2] at cBs
        rw [e3] at cF
        unfold RetM at cF
        dsimp only at cA cBs cF
        clear e1 e2 e3
        replace cA := Lib.hid cA
        replace cBs := Lib.hid cBs
        replace cF := Lib.hid cF
        by_cases hzn : z < 0
        · go_wp2_with fail
          with_reducible refine (cA.out _ hR.out).mono ?_
          rintro e v1 ⟨rfl, hb1⟩
          have hR1 := Lib.hid (hR.out.below hb1)
          replace hb1 := Lib.hid hb1
          go_wp2_with fail
          with_reducible refine (cBs.out _ hR1.out).mono ?_
          rintro e v2 ⟨rfl, hb2⟩
          have hR2 := Lib.hid (hR1.out.below hb2)
          replace hb2 := Lib.hid hb2
          go_wp2_with fail
          with_reducible refine (cF.out _ hR2.out).mono ?_
          rintro e v3 ⟨rfl, hb3⟩
          have hR3 := Lib.hid (hR2.out.below hb3)
          replace hb3 := Lib.hid hb3
          go_wp2_with fail
          go_roundw
          case rel => exact ⟨z + 1, by omega, by omega, by go_num, hR3⟩
          case measure => simp [intOf]; omega
        · have hzM : z = (M : Int) := by omega
          subst hzM
          go_wp2_with fail
          with_reducible refine (cA.out _ hR.out).mono ?_
          rintro e v1 ⟨rfl, hb1⟩
          have hR1 := Lib.hid (hR.out.below hb1)
          replace hb1 := Lib.hid hb1
          go_wp2_with fail
          with_reducible refine (cBs.out _ hR1.out).mono ?_
          rintro e v2 ⟨rfl, hb2⟩
          have hR2 := Lib.hid (hR1.out.below hb2)
          replace hb2 := Lib.hid hb2
          go_wp2_with fail
          with_reducible refine (cF.out _ hR2.out).mono ?_
          rintro e v3 ⟨rfl, hb3⟩
          have hR3 := Lib.hid (hR2.out.below hb3)
          replace hb3 := Lib.hid hb3
          go_wp2_with fail
          go_roundw
          case rel => exact ⟨(M : Int) + 1, by omega, by omega, by go_num, hR3⟩
          case measure => simp [intOf]
    · go_wp2_with fail
      refine hK.out _ _ _ _ _ _ _ _ _ _ _ _ _ _ _ _ _ _ _ _ _ _ _ _ _ _ _ _ _ _ _ _ _ _ _ _ _ _ _ _ _ _ _ _ _ _ _ _ _ _ _ _ _ _ _ _ _ _ _ _ _ _ _ _ _ _ _ _ _ _ _ _ _ _ _ _ _ _ _ _ _ _ _ _ _ _ _ _ _ _ _ _ _ _ _ _ _ _ _ _ _ _ _ _ _ _ _ _ _ _ _ _ _ _ _ _ _ _ _ _ _ _ _ _ _ _ _ _ _ _ _ _ _ _ _ _ _ _ _ ?_
      exact hR.out.blw
end Go.Proofs.Ytllhpdohahoelaa
namespace Go.Proofs.Ytllhpdohahoelaa
open Go.RowKit
set_option linter.unusedVariables false

/-- the law's way: what was told is what is kept -/
structure TLS (B : Nat → Prop) (lb b rb sb : Nat) (l : LM) (x : WM) (ls : LM) (p : Option Addr) (many : Nat) (wr : World) : Prop where
  ts : TG B lb b rb sb l x l ls p x.cs wr
  good : l.Good
  siz : Siz l x
  nm : x.nm = many
  sn : ls.nm = l.nm ∧ ls.nc = l.nc
  sy : ∀ m, m < x.nm → x.S m = ls.B m
theorem TLS.below {B : Nat → Prop} {lb b rb sb : Nat} {l : LM} {x : WM} {ls : LM} {p : Option Addr} {many : Nat} {wr w' : World} (h : TLS B lb b rb sb l x ls p many wr) (hb : Below wr.heap.size wr w') : TLS B lb b rb sb l x ls p many w' := ⟨h.ts.below hb, h.good, h.siz, h.nm, h.sn, h.sy⟩
theorem row_B {l : LM} (h : l.Good) {m : Nat} (hm : m < l.nm) : l.row m = l.B m := by
  funext c
  unfold LM.row LM.get
  by_cases hc : c < l.nc
  · rw [if_pos (LM.has_iff.2 ⟨by omega, by omega, by omega, by omega⟩), Int.toNat_natCast, Int.toNat_natCast]
  · rw [if_neg (fun hh => by have := LM.has_iff.1 hh; omega), h.ok.bz m c (fun e => hc e.2)]
/-- the currencies of the law's ledgers -/
def ncOf (len : Nat) : Nat := max (min len 8) 1
theorem ncOf_ok (len : Nat) : 1 ≤ ncOf len ∧ ncOf len ≤ 8 := by unfold ncOf; omega
theorem ncOf_int (len : Nat) : max (min (len : Int) 8) 1 = (ncOf len : Nat) := by unfold ncOf; omega

/-- what a put needs: the cells of three worlds, and what comes of it -/
theorem TG.prep {B : Nat → Prop} {lb b rb sb : Nat} {l : LM} {x : WM} {ls : LM} {p : Option Addr} {cs : List Cur} {wr : World} {m : Nat} (h : TG B lb b rb sb l x l ls p cs wr) (hg : l.Good) (hn : ls.nm = l.nm ∧ ls.nc = l.nc) (hm : m < ls.nm) :
    ∃ gS cS gR cR g c g' c' w', wr.cell? ⟨sb, 0, none⟩ = some (.slice (some ⟨gS, 0, none⟩) ls.nm cS) ∧ wr.cell? ⟨rb, 0, none⟩ = some (.slice (some ⟨gR, 0, none⟩) ls.nm cR) ∧ wr.cell? ⟨gR, m, none⟩ = some (.slice (some ⟨g, 0, none⟩) ls.nc c) ∧
      (Builtin.append_ #[43, 43] 43 #[.slice (some ⟨wr.heap.size, 0, none⟩) 0 0, .slice (some ⟨g, 0, none⟩) ls.nc c]).run Try.prog (wr.alloc (.cells #[] 2)).drew = .ok (.slice (some ⟨g', 0, none⟩) ls.nc c') w' ∧
      Below wr.heap.size wr w' ∧ (∃ v, w'.cell? ⟨gS, m, none⟩ = some v) ∧ w'.frozen? ⟨gS, m, none⟩ = false ∧ sb < wr.heap.size ∧ rb < wr.heap.size ∧ gR < wr.heap.size ∧
      TG B lb b rb sb l x l (ls.put l m) p cs (w'.setCell ⟨gS, m, none⟩ (.slice (some ⟨g', 0, none⟩) ls.nc c')) ∧ Kp (fun j => ¬ B j) wr (w'.setCell ⟨gS, m, none⟩ (.slice (some ⟨g', 0, none⟩) ls.nc c')) := by
  obtain ⟨KF, RF, SF, h⟩ := h
  obtain ⟨gS, cS, gN, cN, gs, cp, hs⟩ := h.s
  obtain ⟨gR, cR, gN', cN', gr, cr, hr⟩ := h.r
  have hml : m < l.nm := by rw [← hn.1]; exact hm
  obtain ⟨g', c', w', hrun, hI, hge, hG⟩ := appI_run (wr.alloc (.cells #[] 2)).drew wr.heap.size (gr m) l.nc (cr m) (l.B m) (heap_alloc_new wr _) ((hr.bal m hml).at (Below.heap_alloc _ _ _ (hr.bal m hml).lt)) (by have := hg.ok.nc; omega) (by have := hg.ok.nc; omega)
  have hb : Below wr.heap.size wr w' := (((Below.refl _ wr).alloc (Nat.le_refl _) (.cells #[] 2)).drew).grown hG (by show wr.heap.size ≤ (wr.alloc _).heap.size; simp) (fun k hk => by injection hk with hk; omega)
  rw [← hn.2] at hrun hI
  obtain ⟨h1, h2⟩ := h.put (c' := c') hs hb hm hge hI hn
  have hs1 := hs.kept (w' := w') fun j hj _ => hb.block j hj
  obtain ⟨rs, hr1, hr2⟩ := hs1.rows
  obtain ⟨rr, hq1, hq2⟩ := hr.rows
  refine ⟨gS, cS, gR, cR, gr m, cr m, g', c', w', hs.c0, ?_, ?_, hrun, hb, ⟨_, hs1.row hm⟩, obj_free hr1 m, obj_lt hs.obj, obj_lt hr.obj, obj_lt hq1, h1, h2⟩
  · rw [hn.1]; exact hr.c0
  · rw [hn.2]; exact hr.row hml

end Go.Proofs.Ytllhpdohahoelaa
