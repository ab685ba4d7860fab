/- SplitTells answers true, whatever the total, the weights and the parts, if the reference's Shares keeps its contract. -/
import Derived.Test.YtdbjfginigekbaaT5
namespace Go.Proofs.Ytdbjfginigekbaa
open Go.RowKit
set_option linter.unusedVariables false

def shL (T : Int) (zs : List Int) : List Int := if shE T zs = 0 then shares T zs else []
def evE (T n : Int) : Int := if 64 < n then 4 else if n < 1 then 1 else shE T (List.replicate n.toNat 1)
def evL (T n : Int) : List Int := if evE T n = 0 then shares T (List.replicate n.toNat 1) else []
def fiL (T : Int) (zs : List Int) : List Int := if chk T zs = 0 then fills T zs else []
def fiV (T : Int) (zs : List Int) : Int := if chk T zs = 0 then leftAt T zs zs.length else 0

theorem seq_nil (w : World) : Seq64 w none 0 [] := ⟨rfl, fun i => by simp [Amt], by omega, .inl rfl⟩

/-- what a call tells: a list, and an error -/
def Tells2 (w : World) (L : List Int) (c : Int) (e : Ending) (w' : World) : Prop := Below w.heap.size w w' ∧ ∃ p n cap, e = .returned (.tuple #[.slice p n cap, .int .i64 c]) ∧ Seq64 w' p n L
def Tells3 (w : World) (L : List Int) (x c : Int) (e : Ending) (w' : World) : Prop := Below w.heap.size w w' ∧ ∃ p n cap, e = .returned (.tuple #[.slice p n cap, .int .i64 x, .int .i64 c]) ∧ Seq64 w' p n L

theorem sh_tells {T : Int} {zs : List Int} {w w0 w' : World} {e : Ending} (hT : Amt T) (hb : Below w.heap.size w w') (h : ShOut T zs w0 w' e) : Tells2 w (shL T zs) (shE T zs) e w' := by
  refine ⟨hb, ?_⟩
  rcases h with ⟨h, rfl⟩ | ⟨h, g, rfl, _, hI⟩
  · refine ⟨none, 0, 0, rfl, ?_⟩
    unfold shL; rw [if_neg h]; exact seq_nil _
  · obtain ⟨_, h1, h2, h3, h4, h5⟩ := shE_zero h
    refine ⟨_, _, _, by rw [h], ?_⟩
    unfold shL; rw [if_pos h]
    exact hI.seq (shares_len T zs) (by omega) (shares_amt T zs h4 hT h1 h5)
theorem shR_tells {T : Int} {zs : List Int} {w w' : World} {e : Ending} (hb : Below w.heap.size w w') (h : ShOutR T zs w' e) : Tells2 w (shL T zs) (shE T zs) e w' := by
  refine ⟨hb, ?_⟩
  rcases h with ⟨h, rfl⟩ | ⟨h, p, cap, rfl, hI⟩
  · refine ⟨none, 0, 0, rfl, ?_⟩
    unfold shL; rw [if_neg h]; exact seq_nil _
  · refine ⟨p, _, cap, by rw [h], ?_⟩
    unfold shL; rw [if_pos h]; exact hI
theorem ev_sh {T n : Int} {m : Nat} (hm : n = m) (h1 : 1 ≤ m) (h2 : m ≤ 64) : evE T n = shE T (List.replicate m 1) ∧ evL T n = shL T (List.replicate m 1) := by
  subst hm
  have e : evE T (m : Int) = shE T (List.replicate m 1) := by
    unfold evE; rw [if_neg (by omega), if_neg (by omega), Int.toNat_natCast]
  refine ⟨e, ?_⟩
  unfold evL shL
  rw [e, Int.toNat_natCast]
theorem ev_tells {T n : Int} {w w0 w' : World} {e : Ending} (hT : Amt T) (hb : Below w.heap.size w w') (h : EvOut T n w0 w' e) : Tells2 w (evL T n) (evE T n) e w' := by
  rcases h with ⟨h, rfl⟩ | ⟨h, rfl⟩ | ⟨m, hm, h1, h2, h⟩
  · have e : evE T n = 4 := by unfold evE; rw [if_pos h]
    refine ⟨hb, none, 0, 0, by rw [e], ?_⟩
    unfold evL; rw [e, if_neg (by decide)]; exact seq_nil _
  · have e : evE T n = 1 := by unfold evE; rw [if_neg (by omega), if_pos h]
    refine ⟨hb, none, 0, 0, by rw [e], ?_⟩
    unfold evL; rw [e, if_neg (by decide)]; exact seq_nil _
  · obtain ⟨e1, e2⟩ := ev_sh (T := T) hm h1 h2
    rw [e1, e2]; exact sh_tells hT hb h
theorem evR_tells {T n : Int} {w w' : World} {e : Ending} (hb : Below w.heap.size w w') (h : EvOutR T n w' e) : Tells2 w (evL T n) (evE T n) e w' := by
  rcases h with ⟨h, rfl⟩ | ⟨h, hc, rfl⟩ | ⟨m, hm, h1, h2, _, h⟩
  · have e : evE T n = 4 := by unfold evE; rw [if_pos h]
    refine ⟨hb, none, 0, 0, by rw [e], ?_⟩
    unfold evL; rw [e, if_neg (by decide)]; exact seq_nil _
  · have e : evE T n = 1 := by
      unfold evE
      rw [if_neg (by omega)]
      by_cases hn : n < 1
      · rw [if_pos hn]
      · rw [if_neg hn]
        have hneg : T < 0 := by omega
        have hc : chk T (List.replicate n.toNat 1) = 1 := by
          unfold chk; rw [if_neg (by simp; omega), if_pos hneg]
        unfold shE
        rw [hc, if_pos (by decide)]
    refine ⟨hb, none, 0, 0, by rw [e], ?_⟩
    unfold evL; rw [e, if_neg (by decide)]; exact seq_nil _
  · obtain ⟨e1, e2⟩ := ev_sh (T := T) hm h1 h2
    rw [e1, e2]; exact shR_tells hb h
theorem fi_tells {T : Int} {zs : List Int} {w w0 w' : World} {e : Ending} (hT : Amt T) (hb : Below w.heap.size w w') (h : FiOut T zs w0 w' e) : Tells3 w (fiL T zs) (fiV T zs) (chk T zs) e w' := by
  refine ⟨hb, ?_⟩
  rcases h with ⟨h, rfl⟩ | ⟨h, g, rfl, _, hI⟩
  · refine ⟨none, 0, 0, by unfold fiV; rw [if_neg h], ?_⟩
    unfold fiL; rw [if_neg h]; exact seq_nil _
  · obtain ⟨h3, h4, h5⟩ := chk_zero h
    refine ⟨_, _, _, by unfold fiV; rw [if_pos h, h], ?_⟩
    unfold fiL; rw [if_pos h]
    refine hI.seq (fills_len T zs) (by omega) fun i => amt_getD _ (fun z hm => ?_) i
    simp only [fills, List.mem_map] at hm
    obtain ⟨k, _, rfl⟩ := hm
    have h1 := left_nonneg T zs h4 h5 k
    have h2 := getD_nonneg h5 k
    have h6 := hT.2
    unfold fillAt
    exact ⟨by omega, by omega⟩
theorem fiR_tells {T : Int} {zs : List Int} {w w' : World} {e : Ending} (hb : Below w.heap.size w w') (h : FiOutR T zs w' e) : Tells3 w (fiL T zs) (fiV T zs) (chk T zs) e w' := by
  refine ⟨hb, ?_⟩
  rcases h with ⟨h, rfl⟩ | ⟨h, p, cap, rfl, hI⟩
  · refine ⟨none, 0, 0, by unfold fiV; rw [if_neg h], ?_⟩
    unfold fiL; rw [if_neg h]; exact seq_nil _
  · refine ⟨p, _, cap, by unfold fiV; rw [if_pos h, h], ?_⟩
    unfold fiL; rw [if_pos h]; exact hI

theorem same_tells (p1 p2 : Option Addr) (n1 c1 n2 c2 : Nat) (L : List Int) (w : World) (h1 : Seq64 w p1 n1 L) (h2 : Seq64 w p2 n2 L) :
    Calls Try.prog 14 #[.slice p1 n1 c1, .slice p2 n2 c2] w fun e w' => e = .returned (.bool true) ∧ Below w.heap.size w w' := by
  have h := same_any p1 p2 n1 c1 n2 c2 L L w h1 h2
  rwa [decide_eq_true rfl] at h

set_option maxHeartbeats 8000000 in
set_option maxRecDepth 100000 in
theorem splitTells_of (hSh : SharesR) (T : Int) (p : Option Addr) (len cap : Nat) (zs : List Int) (n : Int) (w : World) (hT : Amt T) (hs : len ≤ 70 → Seq64 w p len zs) (hn : Amt n) :
    Calls Try.prog 3 #[.int .i64 T, .slice p len cap, .int .i64 n] w fun e w' => e = .returned (.bool true) ∧ Below w.heap.size w w' := by
  have haw := awake_any w
  replace hSh := Lib.hid hSh
  replace hT := Lib.hid hT
  replace hn := Lib.hid hn
  by_cases h70 : 70 < len
  · have h70z : (70 : Int) < (len : Int) := by omega
    clear hs
    go_enter Try.func3, Try.ntmps3
    go_wp2_with (first | (go_at_call 7; refine haw.mono ?_; rintro e w1 ⟨rfl, hb1⟩))
    go_ret
    exact ⟨rfl, hb1⟩
  · have h70z : ¬ (70 : Int) < (len : Int) := by omega
    replace hs := Lib.hid (hs (by omega))
    go_enter Try.func3, Try.ntmps3
    go_upto_region 5 with (first | (go_at_call 7; refine haw.mono ?_; rintro e w1 ⟨rfl, hB⟩))
    clear haw
    have hcon := (shares_any T p len cap zs w1 hT.out (hs.out.kept hB)).mono fun e w' h => sh_tells hT.out h.1 h.2
    go_upto_region 6 with (first | (go_at_call 8; refine hcon.mono ?_; rintro e w2 ⟨hb, pa, na, ca, rfl, ha⟩))
    replace hB := hB.trans (hb.mono hB.size)
    clear hcon hb
    have hcon := (hSh.out T p len cap zs w2 hT.out (hs.out.kept hB)).mono fun e w' h => shR_tells h.1 h.2
    go_upto_region 7 with (first | (go_at_call 9; refine hcon.mono ?_; rintro e w3 ⟨hb, pb, nb, cb, rfl, hbb⟩))
    replace hB := hB.trans (hb.mono hB.size)
    replace ha := ha.kept hb
    clear hcon hb
    have hcon := (even_any T n w3 hT.out hn.out).mono fun e w' h => ev_tells hT.out h.1 h.2
    go_upto_region 8 with (first | (go_at_call 10; refine hcon.mono ?_; rintro e w4 ⟨hb, pc, nc, cc, rfl, hc⟩))
    replace hB := hB.trans (hb.mono hB.size)
    replace ha := ha.kept hb
    replace hbb := hbb.kept hb
    clear hcon hb
    have hcon := (evenR_any hSh.out T n w4 hT.out hn.out).mono fun e w' h => evR_tells h.1 h.2
    go_upto_region 9 with (first | (go_at_call 11; refine hcon.mono ?_; rintro e w5 ⟨hb, pd, nd, cd, rfl, hd⟩))
    replace hB := hB.trans (hb.mono hB.size)
    replace ha := ha.kept hb
    replace hbb := hbb.kept hb
    replace hc := hc.kept hb
    clear hcon hb
    have hcon := (fill_any T p len cap zs w5 hT.out (hs.out.kept hB)).mono fun e w' h => fi_tells hT.out h.1 h.2
    go_upto_region 10 with (first | (go_at_call 12; refine hcon.mono ?_; rintro e w6 ⟨hb, px, nx, cx, rfl, hx⟩))
    replace hB := hB.trans (hb.mono hB.size)
    replace ha := ha.kept hb
    replace hbb := hbb.kept hb
    replace hc := hc.kept hb
    replace hd := hd.kept hb
    clear hcon hb
    have hcon := (fillR_any T p len cap zs w6 hT.out (hs.out.kept hB)).mono fun e w' h => fiR_tells h.1 h.2
    go_upto_region 11 with (first | (go_at_call 13; refine hcon.mono ?_; rintro e w7 ⟨hb, py, ny, cy, rfl, hy⟩))
    replace hB := hB.trans (hb.mono hB.size)
    replace ha := ha.kept hb
    replace hbb := hbb.kept hb
    replace hc := hc.kept hb
    replace hd := hd.kept hb
    replace hx := hx.kept hb
    clear hcon hb
    generalize shE T zs = c1 at *
    generalize evE T n = c2 at *
    generalize chk T zs = c3 at *
    generalize fiV T zs = xv at *
    have s1 := same_tells pa pb na ca nb cb _ w7 ha hbb
    replace hB := Lib.hid hB
    replace hc := Lib.hid hc
    replace hd := Lib.hid hd
    replace hx := Lib.hid hx
    replace hy := Lib.hid hy
    clear ha hbb hs
    go_wp2_with (first
      | (go_at_call 14; (with_reducible refine s1.mono ?_); rintro e w8 ⟨rfl, hb8⟩
         have s2 := same_tells pc pd nc cc nd cd _ w8 (hc.out.kept hb8) (hd.out.kept hb8); have hx8 := Lib.hid (hx.out.kept hb8); have hy8 := Lib.hid (hy.out.kept hb8); have hB8 := Lib.hid (hB.out.trans (hb8.mono hB.out.size)); clear hb8)
      | (go_at_call 14; (with_reducible refine s2.mono ?_); rintro e w9 ⟨rfl, hb9⟩
         have s3 := same_tells px py nx cx ny cy _ w9 (hx8.out.kept hb9) (hy8.out.kept hb9); have hB9 := Lib.hid (hB8.out.trans (hb9.mono hB8.out.size)); clear hb9)
      | (go_at_call 14; (with_reducible refine s3.mono ?_); rintro e w10 ⟨rfl, hb10⟩))
    go_ret
    exact ⟨rfl, hB9.out.trans (hb10.mono hB9.out.size)⟩

end Go.Proofs.Ytdbjfginigekbaa
