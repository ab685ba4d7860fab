/- The contract of the reference's Post. -/
import Derived.Test.YtllhpdohahoelaaLJ1
namespace Go.Proofs.Ytllhpdohahoelaa
open Go.RowKit
set_option linter.unusedVariables false

/-- Post's first way: all are known so far -/
structure RQ (w : World) (l : LM) (ps : List Pst) (g k : Nat) (wr : World) : Prop where
  sums : SB wr g l.nc 5 fun _ => 0
  known : ∀ q ∈ ps.take k, l.has q.m q.c = true
  blw : Below w.heap.size w wr
/-- its second way: k postings are added up -/
structure RS (w : World) (l : LM) (ps : List Pst) (g k : Nat) (wr : World) : Prop where
  sums : SB wr g l.nc (5 + k) (sumN ps k)
  blw : Below w.heap.size w wr
/-- its third way: k postings are done to the copy -/
structure RT (w : World) (l : LM) (ps : List Pst) (b' k : Nat) (C : Nat → Nat → Int) (gB' cB' gN' cN' : Nat) (g' cp' : Nat → Nat) (wr : World) : Prop where
  led : RLv (fun j => w.heap.size ≤ j) wr b' ⟨l.nm, l.nc, C, l.N⟩ gB' cB' gN' cN' g' cp'
  go : goP C (ps.drop k) = goP l.B ps
  ic : ∀ m c, In64 (C m c)
  blw : Below w.heap.size w wr

set_option maxHeartbeats 40000000 in
set_option maxRecDepth 100000 in
theorem postRL_any {P : Nat → Prop} {b : Nat} {l : LM} (p : Option Addr) (len cap : Nat) (ps : List Pst) (w : World) (h0 : RL P w b l) (hl : l.Ok) (hrow : PRow w p len ps) (hlen : len ≤ 30) (hP : ∀ i, w.heap.size ≤ i → P i) :
    Calls Try.prog 15 #[.pointer (some ⟨b, 0, none⟩), .slice p len cap] w (RDid P b (l.post ps) w) := by
  obtain ⟨gB, cB, gN, cN, g0, cp0, h⟩ := h0
  have hpl := hrow.1
  have hnc := hl.nc
  have hmk := fun w => make_bigs l.nc (by omega) w
  have hS0 : RQ w l ps w.heap.size 0 (w.alloc (.cells (zbg l.nc) 83)) := ⟨SB.made w l.nc 5, fun q hq => by simp at hq, (Below.refl _ w).alloc (Nat.le_refl _) _⟩
  have c1 := h.c1
  generalize hz : zbg l.nc = z at *
  replace hS0 := Lib.hid hS0
  replace hz := Lib.hid hz
  replace h := Lib.hid h
  replace hl := Lib.hid hl
  replace hrow := Lib.hid hrow
  replace hP := Lib.hid hP
  go_enter Try.func15, Try.ntmps15
  go_wp2_with fail
  clear hmk c1
  go_loopw [6] (fun i wr => ∃ k : Nat, k ≤ len ∧ i = .int .i64 (k : Int) ∧ Hid (RQ w l ps w.heap.size k wr)) (fun i _ => len - (intOf i).toNat)
  case atStart => exact ⟨0, by omega, rfl, hS0⟩
  case round =>
    obtain ⟨k, hk, rfl, hS⟩ := hrel
    by_cases hkl : k < len
    · have hkz : (k : Int) < (len : Int) := by omega
      have hT := hS.out
      obtain ⟨_, hin, hrw⟩ := hrow.out
      obtain ⟨rb, off, rfl, hbs, hcells⟩ := hrw.resolve_left (by omega)
      obtain ⟨q, hq⟩ : ∃ q, ps[k]? = some q := ⟨ps[k], List.getElem?_eq_getElem (by omega)⟩
      obtain ⟨q0, q1, q2⟩ := hcells k q hq
      replace q0 := (hT.blw.cell (p := ⟨rb, off + k * 3, none⟩) hbs).trans q0
      replace q1 := (hT.blw.cell (p := ⟨rb, off + k * 3 + 1, none⟩) hbs).trans q1
      have cH : ∀ n, Calls Try.prog 35 #[.pointer (some ⟨b, 0, none⟩), .int .i64 q.m, .int .i64 q.c] (wr.drewN n) fun e w' => e = .returned (.bool (l.has q.m q.c)) ∧ w' = wr.drewN n := fun n => (hasRL_any q.m q.c _ ((h.out.below hT.blw).drewN n)).mono fun e w' h => ⟨h.1, h.2.symm⟩
      replace hcells := Lib.hid hcells
      replace hin := Lib.hid hin
      replace hrw := Lib.hid hrw
      cases hh : l.has q.m q.c with
      | true =>
        rw [hh] at cH
        have hS1 : ∀ n, RQ w l ps w.heap.size (k + 1) (wr.drewN n) := fun n => ⟨hT.sums.below (below_drewN (Below.refl _ _) n), fun y hy => by
          rw [List.take_add_one, hq] at hy
          rcases List.mem_append.1 hy with h1 | h1
          · exact hT.known y h1
          · simp at h1; subst h1; exact hh, below_drewN hT.blw n⟩
        replace hS1 := Lib.hid hS1
        replace hT := Lib.hid hT
        replace cH := Lib.hid cH
        replace hh := Lib.hid hh
        go_upto_region 5 with (fail)
        go_quiet (first | (go_at_call 35; refine Calls.quiet_of_same (cH.out _)))
        go_wp2_with fail
        go_roundw
        case rel => exact ⟨k + 1, by omega, by go_num, Lib.hid (hS1.out _)⟩
        case measure => simp [intOf]; omega
      | false =>
        rw [hh] at cH
        have hfin : ∀ n, RDid P b (l.post ps) w (.returned (.int .i64 1)) (wr.drewN n) := fun n => by
          have e : l.post ps = (1, l) := post_unknown (by
            unfold LM.known
            rw [List.all_eq_false]
            exact ⟨q, List.mem_of_getElem? hq, by rw [hh]; simp⟩)
          have hb := below_drewN hT.blw n
          exact ⟨by rw [e], by rw [e]; exact RL.of (h.out.below hb), Kp.of_below hb⟩
        replace hfin := Lib.hid hfin
        replace hT := Lib.hid hT
        replace cH := Lib.hid cH
        replace hh := Lib.hid hh
        go_upto_region 5 with (fail)
        go_quiet (first | (go_at_call 35; refine Calls.quiet_of_same (cH.out _)))
        go_wp2_with fail
        go_ret
        exact hfin.out _
    · obtain rfl : k = len := by omega
      have hkz : ¬ (k : Int) < (k : Int) := by omega
      have hT := hS.out
      have htk : ps.take k = ps := List.take_of_length_le (by omega)
      have hkn : l.known ps = true := List.all_eq_true.2 fun q hq => hT.known q (by rw [htk]; exact hq)
      have hS2 : RS w l ps w.heap.size 0 wr := ⟨by
        have e : sumN ps 0 = fun _ => 0 := by funext c; rfl
        rw [e]; exact hT.sums, hT.blw⟩
      replace hT := Lib.hid hT
      replace hkn := Lib.hid hkn
      replace hS2 := Lib.hid hS2
      go_wp2_with fail
      go_loopw [7] (fun i wr => ∃ j : Nat, j ≤ k ∧ i = .int .i64 (j : Int) ∧ Hid (RS w l ps w.heap.size j wr)) (fun i _ => k - (intOf i).toNat)
      case atStart => exact ⟨0, by omega, rfl, hS2⟩
      case round =>
        obtain ⟨j, hj, rfl, hSs⟩ := hrel
        have hT := hSs.out
        by_cases hjk : j < k
        · have hkz : (j : Int) < (k : Int) := by omega
          obtain ⟨_, hin, hrw⟩ := hrow.out
          obtain ⟨rb, off, rfl, hbs, hcells⟩ := hrw.resolve_left (by omega)
          obtain ⟨q, hq⟩ : ∃ q, ps[j]? = some q := ⟨ps[j], List.getElem?_eq_getElem (by omega)⟩
          obtain ⟨q0, q1, q2⟩ := hcells j q hq
          replace q0 := (hT.blw.cell (p := ⟨rb, off + j * 3, none⟩) hbs).trans q0
          replace q1 := (hT.blw.cell (p := ⟨rb, off + j * 3 + 1, none⟩) hbs).trans q1
          replace q2 := (hT.blw.cell (p := ⟨rb, off + j * 3 + 2, none⟩) hbs).trans q2
          have hqi := hin q (List.mem_of_getElem? hq)
          obtain ⟨m, c, hqm, hqc, hm, hc⟩ := LM.has_nat (known_mem hkn.out q (List.mem_of_getElem? hq))
          rw [hqc] at q1
          have hcz : (c : Int) < (l.nc : Int) := by omega
          have hsucc := sumN_succ hq hqc
          obtain ⟨neg, sp, sl, sc, s0, s1, hsB⟩ := hT.sums.at hc
          have hx64 := hqi.2.2
          generalize q.a = x at *
          have hof := fun w => of_any x w hx64.1 hx64.2
          have hrbl : rb < wr.heap.size := Nat.lt_of_lt_of_le hbs hT.blw.size
          have hgl := hT.sums.lt
          have hws := hT.blw.size
          replace hcells := Lib.hid hcells
          replace hin := Lib.hid hin
          replace hrw := Lib.hid hrw
          replace hqi := Lib.hid hqi
          replace hqm := Lib.hid hqm
          replace hqc := Lib.hid hqc
          replace hsucc := Lib.hid hsucc
          replace hx64 := Lib.hid hx64
          replace hsB := Lib.hid hsB
          replace hof := Lib.hid hof
          replace hT := Lib.hid hT
          replace hq := Lib.hid hq
          go_upto_block 3 with fail
          go_cut [66] from 39 to 65 (fun v66 wc => Hid (RS w l ps w.heap.size (j + 1) wc))
          case first =>
            go_upto_region 10 with (fail)
            rename_i J1 K1 hJ1 hK1
            have hq0 := q0; have hq1 := q1; have hq2 := q2
            refine wp_region_closed (by kernel_rfl) (fun L az wz => ∃ v45 v46 v47 v48 v49 v50 v51 v52 v53 v54 v55 v56 v57 v58 v59 v60 v61 v62 v63 v64 v65 v66 : Value, az = ({ tmps := (.pointer (some ⟨b, 0, none⟩) :: Value.slice (some ⟨rb, off, none⟩) k cap :: undef :: undef :: u4 :: Value.slice (some ⟨w.heap.size, 0, none⟩) l.nc l.nc :: .int .i64 (k : Int) :: .int .i64 (j : Int) :: undef :: undef :: undef :: undef :: undef :: undef :: .pointer (some ⟨b, 0, none⟩) :: .pointer (some ⟨b, 0, none⟩) :: .pointer (some ⟨b, 1, none⟩) :: Value.slice (some ⟨gN, 0, none⟩) l.nc cN :: .int .i64 (l.nc : Int) :: Value.slice (some ⟨w.heap.size, 0, none⟩) l.nc l.nc :: .int .i64 (k : Int) :: Value.slice (some ⟨rb, off, none⟩) k cap :: .int .i64 (k : Int) :: .bool false :: u24 :: u25 :: u26 :: u27 :: u28 :: u29 :: u30 :: u31 :: u32 :: u33 :: u34 :: u35 :: u36 :: u37 :: u38 :: .int .i64 (j : Int) :: Value.slice (some ⟨rb, off, none⟩) k cap :: .int .i64 (k : Int) :: .bool true :: u43 :: u44 :: v45 :: v46 :: v47 :: v48 :: v49 :: v50 :: v51 :: v52 :: v53 :: v54 :: v55 :: v56 :: v57 :: v58 :: v59 :: v60 :: v61 :: v62 :: v63 :: v64 :: v65 :: v66 :: undef :: undef :: undef :: undef :: undef :: undef :: undef :: undef :: undef :: undef :: undef :: undef :: undef :: undef :: undef :: undef :: undef :: undef :: undef :: undef :: undef :: undef :: undef :: undef :: undef :: undef :: undef :: undef :: undef :: undef :: undef :: undef :: undef :: undef :: undef :: undef :: undef :: undef :: undef :: undef :: undef :: undef :: undef :: undef :: undef :: undef :: undef :: undef :: undef :: undef :: undef :: undef :: undef :: undef :: undef :: undef :: undef :: undef :: undef :: undef :: undef :: undef :: undef :: undef :: undef :: undef :: undef :: undef :: []).toArray, defers := [] } : Act) ∧ (L 22 = false → Below wr.heap.size wr wz) ∧ (L 0 = true → v45 = Value.slice (some ⟨w.heap.size, 0, none⟩) l.nc l.nc) ∧ (L 1 = true → v46 = Value.slice (some ⟨rb, off, none⟩) k cap) ∧ (L 2 = true → v47 = .int .i64 (j : Int)) ∧ (L 3 = true → v48 = .pointer (some ⟨rb, off + j * 3, none⟩)) ∧ (L 4 = true → v49 = .pointer (some ⟨rb, off + j * 3 + 1, none⟩)) ∧ (L 5 = true → v50 = .int .i64 (c : Int)) ∧ (L 6 = true → v51 = Value.slice (some ⟨w.heap.size, 0, none⟩) l.nc l.nc) ∧ (L 7 = true → v52 = Value.slice (some ⟨rb, off, none⟩) k cap) ∧ (L 8 = true → v53 = .int .i64 (j : Int)) ∧ (L 9 = true → v54 = .pointer (some ⟨rb, off + j * 3, none⟩)) ∧ (L 10 = true → v55 = .pointer (some ⟨rb, off + j * 3 + 1, none⟩)) ∧ (L 11 = true → v56 = .int .i64 (c : Int)) ∧ (L 12 = true → v57 = .pointer (some ⟨w.heap.size, c * 2, none⟩)) ∧ (L 13 = true → v58 = .agg #[.bool neg, .slice sp sl sc]) ∧ (L 14 = true → v59 = Value.slice (some ⟨rb, off, none⟩) k cap) ∧ (L 15 = true → v60 = .int .i64 (j : Int)) ∧ (L 16 = true → v61 = .pointer (some ⟨rb, off + j * 3, none⟩)) ∧ (L 17 = true → v62 = .pointer (some ⟨rb, off + j * 3 + 2, none⟩)) ∧ (L 18 = true → v63 = .int .i64 x) ∧ (L 21 = true → v66 = .pointer (some ⟨w.heap.size, c * 2, none⟩)) ∧ (L 19 = true → L 22 = false → IsB wz v64 5 x) ∧ (L 20 = true → L 22 = false → ∃ (neg2 : Bool) (p2 : Option Addr) (l2 c2 : Nat), v65 = .agg #[.bool neg2, .slice p2 l2 c2] ∧ IsB wz (.agg #[.bool neg2, .slice p2 l2 c2]) (5 + j + 1) (sumN ps j c + x)) ∧ (L 22 = true → RS w l ps w.heap.size (j + 1) wz)) (by kernel_rfl) ?_ ?_ ?_
            · exact ⟨_, _, _, _, _, _, _, _, _, _, _, _, _, _, _, _, _, _, _, _, _, _, rfl, fun _ => (Below.refl _ _).drew, nofun, nofun, nofun, nofun, nofun, nofun, nofun, nofun, nofun, nofun, nofun, nofun, nofun, nofun, nofun, nofun, nofun, nofun, nofun, nofun, nofun, nofun, nofun⟩
            · intro L az wz i hi hni hI hdep hcl
              obtain ⟨v45, v46, v47, v48, v49, v50, v51, v52, v53, v54, v55, v56, v57, v58, v59, v60, v61, v62, v63, v64, v65, v66, rfl, hB, h0, h1, h2, h3, h4, h5, h6, h7, h8, h9, h10, h11, h12, h13, h14, h15, h16, h17, h18, h21, h19, h20, h22⟩ := hI
              have hcase : i = 0 ∨ i = 1 ∨ i = 2 ∨ i = 3 ∨ i = 4 ∨ i = 5 ∨ i = 6 ∨ i = 7 ∨ i = 8 ∨ i = 9 ∨ i = 10 ∨ i = 11 ∨ i = 12 ∨ i = 13 ∨ i = 14 ∨ i = 15 ∨ i = 16 ∨ i = 17 ∨ i = 18 ∨ i = 19 ∨ i = 20 ∨ i = 21 ∨ i = 22 := by
                have hi2 : i < 23 := hi
                omega
              rcases hcase with rfl | rfl | rfl | rfl | rfl | rfl | rfl | rfl | rfl | rfl | rfl | rfl | rfl | rfl | rfl | rfl | rfl | rfl | rfl | rfl | rfl | rfl | rfl
              · -- 0
                have hf22 : L 22 = false := by
                  cases h : L 22 with
                  | false => rfl
                  | true => have := hcl 22 h 0 (by decide +kernel); rw [hni] at this; cases this
                refine wpOp_step rfl fun K hK => ?_
                go_simp
                exact hK _ _ ⟨_, _, _, _, _, _, _, _, _, _, _, _, _, _, _, _, _, _, _, _, _, _, rfl, fun f => hB (by cases h : L 22 with | false => rfl | true => rw [add_old h] at f; cases f), fun _ => rfl, fun e => h1 (add_ne e (by decide)), fun e => h2 (add_ne e (by decide)), fun e => h3 (add_ne e (by decide)), fun e => h4 (add_ne e (by decide)), fun e => h5 (add_ne e (by decide)), fun e => h6 (add_ne e (by decide)), fun e => h7 (add_ne e (by decide)), fun e => h8 (add_ne e (by decide)), fun e => h9 (add_ne e (by decide)), fun e => h10 (add_ne e (by decide)), fun e => h11 (add_ne e (by decide)), fun e => h12 (add_ne e (by decide)), fun e => h13 (add_ne e (by decide)), fun e => h14 (add_ne e (by decide)), fun e => h15 (add_ne e (by decide)), fun e => h16 (add_ne e (by decide)), fun e => h17 (add_ne e (by decide)), fun e => h18 (add_ne e (by decide)), fun e => h21 (add_ne e (by decide)), fun e f => h19 (add_ne e (by decide)) (by cases h : L 22 with | false => rfl | true => rw [add_old h] at f; cases f), fun e f => h20 (add_ne e (by decide)) (by cases h : L 22 with | false => rfl | true => rw [add_old h] at f; cases f), fun e => h22 (add_ne e (by decide))⟩
              · -- 1
                have hf22 : L 22 = false := by
                  cases h : L 22 with
                  | false => rfl
                  | true => have := hcl 22 h 1 (by decide +kernel); rw [hni] at this; cases this
                refine wpOp_step rfl fun K hK => ?_
                go_simp
                exact hK _ _ ⟨_, _, _, _, _, _, _, _, _, _, _, _, _, _, _, _, _, _, _, _, _, _, rfl, fun f => hB (by cases h : L 22 with | false => rfl | true => rw [add_old h] at f; cases f), fun e => h0 (add_ne e (by decide)), fun _ => rfl, fun e => h2 (add_ne e (by decide)), fun e => h3 (add_ne e (by decide)), fun e => h4 (add_ne e (by decide)), fun e => h5 (add_ne e (by decide)), fun e => h6 (add_ne e (by decide)), fun e => h7 (add_ne e (by decide)), fun e => h8 (add_ne e (by decide)), fun e => h9 (add_ne e (by decide)), fun e => h10 (add_ne e (by decide)), fun e => h11 (add_ne e (by decide)), fun e => h12 (add_ne e (by decide)), fun e => h13 (add_ne e (by decide)), fun e => h14 (add_ne e (by decide)), fun e => h15 (add_ne e (by decide)), fun e => h16 (add_ne e (by decide)), fun e => h17 (add_ne e (by decide)), fun e => h18 (add_ne e (by decide)), fun e => h21 (add_ne e (by decide)), fun e f => h19 (add_ne e (by decide)) (by cases h : L 22 with | false => rfl | true => rw [add_old h] at f; cases f), fun e f => h20 (add_ne e (by decide)) (by cases h : L 22 with | false => rfl | true => rw [add_old h] at f; cases f), fun e => h22 (add_ne e (by decide))⟩
              · -- 2
                have hf22 : L 22 = false := by
                  cases h : L 22 with
                  | false => rfl
                  | true => have := hcl 22 h 2 (by decide +kernel); rw [hni] at this; cases this
                refine wpOp_step rfl fun K hK => ?_
                go_simp
                exact hK _ _ ⟨_, _, _, _, _, _, _, _, _, _, _, _, _, _, _, _, _, _, _, _, _, _, rfl, fun f => hB (by cases h : L 22 with | false => rfl | true => rw [add_old h] at f; cases f), fun e => h0 (add_ne e (by decide)), fun e => h1 (add_ne e (by decide)), fun _ => rfl, fun e => h3 (add_ne e (by decide)), fun e => h4 (add_ne e (by decide)), fun e => h5 (add_ne e (by decide)), fun e => h6 (add_ne e (by decide)), fun e => h7 (add_ne e (by decide)), fun e => h8 (add_ne e (by decide)), fun e => h9 (add_ne e (by decide)), fun e => h10 (add_ne e (by decide)), fun e => h11 (add_ne e (by decide)), fun e => h12 (add_ne e (by decide)), fun e => h13 (add_ne e (by decide)), fun e => h14 (add_ne e (by decide)), fun e => h15 (add_ne e (by decide)), fun e => h16 (add_ne e (by decide)), fun e => h17 (add_ne e (by decide)), fun e => h18 (add_ne e (by decide)), fun e => h21 (add_ne e (by decide)), fun e f => h19 (add_ne e (by decide)) (by cases h : L 22 with | false => rfl | true => rw [add_old h] at f; cases f), fun e f => h20 (add_ne e (by decide)) (by cases h : L 22 with | false => rfl | true => rw [add_old h] at f; cases f), fun e => h22 (add_ne e (by decide))⟩
              · -- 3
                have hf22 : L 22 = false := by
                  cases h : L 22 with
                  | false => rfl
                  | true => have := hcl 22 h 3 (by decide +kernel); rw [hni] at this; cases this
                have e1 := h1 (hdep 1 (by decide +kernel))
                subst e1
                have e2 := h2 (hdep 2 (by decide +kernel))
                subst e2
                refine wpOp_step rfl fun K hK => ?_
                go_simp
                exact hK _ _ ⟨_, _, _, _, _, _, _, _, _, _, _, _, _, _, _, _, _, _, _, _, _, _, rfl, fun f => hB (by cases h : L 22 with | false => rfl | true => rw [add_old h] at f; cases f), fun e => h0 (add_ne e (by decide)), fun e => h1 (add_ne e (by decide)), fun e => h2 (add_ne e (by decide)), fun _ => rfl, fun e => h4 (add_ne e (by decide)), fun e => h5 (add_ne e (by decide)), fun e => h6 (add_ne e (by decide)), fun e => h7 (add_ne e (by decide)), fun e => h8 (add_ne e (by decide)), fun e => h9 (add_ne e (by decide)), fun e => h10 (add_ne e (by decide)), fun e => h11 (add_ne e (by decide)), fun e => h12 (add_ne e (by decide)), fun e => h13 (add_ne e (by decide)), fun e => h14 (add_ne e (by decide)), fun e => h15 (add_ne e (by decide)), fun e => h16 (add_ne e (by decide)), fun e => h17 (add_ne e (by decide)), fun e => h18 (add_ne e (by decide)), fun e => h21 (add_ne e (by decide)), fun e f => h19 (add_ne e (by decide)) (by cases h : L 22 with | false => rfl | true => rw [add_old h] at f; cases f), fun e f => h20 (add_ne e (by decide)) (by cases h : L 22 with | false => rfl | true => rw [add_old h] at f; cases f), fun e => h22 (add_ne e (by decide))⟩
              · -- 4
                have hf22 : L 22 = false := by
                  cases h : L 22 with
                  | false => rfl
                  | true => have := hcl 22 h 4 (by decide +kernel); rw [hni] at this; cases this
                have e3 := h3 (hdep 3 (by decide +kernel))
                subst e3
                refine wpOp_step rfl fun K hK => ?_
                go_simp
                exact hK _ _ ⟨_, _, _, _, _, _, _, _, _, _, _, _, _, _, _, _, _, _, _, _, _, _, rfl, fun f => hB (by cases h : L 22 with | false => rfl | true => rw [add_old h] at f; cases f), fun e => h0 (add_ne e (by decide)), fun e => h1 (add_ne e (by decide)), fun e => h2 (add_ne e (by decide)), fun e => h3 (add_ne e (by decide)), fun _ => rfl, fun e => h5 (add_ne e (by decide)), fun e => h6 (add_ne e (by decide)), fun e => h7 (add_ne e (by decide)), fun e => h8 (add_ne e (by decide)), fun e => h9 (add_ne e (by decide)), fun e => h10 (add_ne e (by decide)), fun e => h11 (add_ne e (by decide)), fun e => h12 (add_ne e (by decide)), fun e => h13 (add_ne e (by decide)), fun e => h14 (add_ne e (by decide)), fun e => h15 (add_ne e (by decide)), fun e => h16 (add_ne e (by decide)), fun e => h17 (add_ne e (by decide)), fun e => h18 (add_ne e (by decide)), fun e => h21 (add_ne e (by decide)), fun e f => h19 (add_ne e (by decide)) (by cases h : L 22 with | false => rfl | true => rw [add_old h] at f; cases f), fun e f => h20 (add_ne e (by decide)) (by cases h : L 22 with | false => rfl | true => rw [add_old h] at f; cases f), fun e => h22 (add_ne e (by decide))⟩
              · -- 5
                have hf22 : L 22 = false := by
                  cases h : L 22 with
                  | false => rfl
                  | true => have := hcl 22 h 5 (by decide +kernel); rw [hni] at this; cases this
                have e4 := h4 (hdep 4 (by decide +kernel))
                subst e4
                have z := ((hB hf22).cell (p := ⟨rb, off + j * 3 + 1, none⟩) hrbl).trans hq1
                refine wpOp_step rfl fun K hK => ?_
                go_simp
                exact hK _ _ ⟨_, _, _, _, _, _, _, _, _, _, _, _, _, _, _, _, _, _, _, _, _, _, rfl, fun f => hB (by cases h : L 22 with | false => rfl | true => rw [add_old h] at f; cases f), fun e => h0 (add_ne e (by decide)), fun e => h1 (add_ne e (by decide)), fun e => h2 (add_ne e (by decide)), fun e => h3 (add_ne e (by decide)), fun e => h4 (add_ne e (by decide)), fun _ => rfl, fun e => h6 (add_ne e (by decide)), fun e => h7 (add_ne e (by decide)), fun e => h8 (add_ne e (by decide)), fun e => h9 (add_ne e (by decide)), fun e => h10 (add_ne e (by decide)), fun e => h11 (add_ne e (by decide)), fun e => h12 (add_ne e (by decide)), fun e => h13 (add_ne e (by decide)), fun e => h14 (add_ne e (by decide)), fun e => h15 (add_ne e (by decide)), fun e => h16 (add_ne e (by decide)), fun e => h17 (add_ne e (by decide)), fun e => h18 (add_ne e (by decide)), fun e => h21 (add_ne e (by decide)), fun e f => h19 (add_ne e (by decide)) (by cases h : L 22 with | false => rfl | true => rw [add_old h] at f; cases f), fun e f => h20 (add_ne e (by decide)) (by cases h : L 22 with | false => rfl | true => rw [add_old h] at f; cases f), fun e => h22 (add_ne e (by decide))⟩
              · -- 6
                have hf22 : L 22 = false := by
                  cases h : L 22 with
                  | false => rfl
                  | true => have := hcl 22 h 6 (by decide +kernel); rw [hni] at this; cases this
                refine wpOp_step rfl fun K hK => ?_
                go_simp
                exact hK _ _ ⟨_, _, _, _, _, _, _, _, _, _, _, _, _, _, _, _, _, _, _, _, _, _, rfl, fun f => hB (by cases h : L 22 with | false => rfl | true => rw [add_old h] at f; cases f), fun e => h0 (add_ne e (by decide)), fun e => h1 (add_ne e (by decide)), fun e => h2 (add_ne e (by decide)), fun e => h3 (add_ne e (by decide)), fun e => h4 (add_ne e (by decide)), fun e => h5 (add_ne e (by decide)), fun _ => rfl, fun e => h7 (add_ne e (by decide)), fun e => h8 (add_ne e (by decide)), fun e => h9 (add_ne e (by decide)), fun e => h10 (add_ne e (by decide)), fun e => h11 (add_ne e (by decide)), fun e => h12 (add_ne e (by decide)), fun e => h13 (add_ne e (by decide)), fun e => h14 (add_ne e (by decide)), fun e => h15 (add_ne e (by decide)), fun e => h16 (add_ne e (by decide)), fun e => h17 (add_ne e (by decide)), fun e => h18 (add_ne e (by decide)), fun e => h21 (add_ne e (by decide)), fun e f => h19 (add_ne e (by decide)) (by cases h : L 22 with | false => rfl | true => rw [add_old h] at f; cases f), fun e f => h20 (add_ne e (by decide)) (by cases h : L 22 with | false => rfl | true => rw [add_old h] at f; cases f), fun e => h22 (add_ne e (by decide))⟩
              · -- 7
                have hf22 : L 22 = false := by
                  cases h : L 22 with
                  | false => rfl
                  | true => have := hcl 22 h 7 (by decide +kernel); rw [hni] at this; cases this
                refine wpOp_step rfl fun K hK => ?_
                go_simp
                exact hK _ _ ⟨_, _, _, _, _, _, _, _, _, _, _, _, _, _, _, _, _, _, _, _, _, _, rfl, fun f => hB (by cases h : L 22 with | false => rfl | true => rw [add_old h] at f; cases f), fun e => h0 (add_ne e (by decide)), fun e => h1 (add_ne e (by decide)), fun e => h2 (add_ne e (by decide)), fun e => h3 (add_ne e (by decide)), fun e => h4 (add_ne e (by decide)), fun e => h5 (add_ne e (by decide)), fun e => h6 (add_ne e (by decide)), fun _ => rfl, fun e => h8 (add_ne e (by decide)), fun e => h9 (add_ne e (by decide)), fun e => h10 (add_ne e (by decide)), fun e => h11 (add_ne e (by decide)), fun e => h12 (add_ne e (by decide)), fun e => h13 (add_ne e (by decide)), fun e => h14 (add_ne e (by decide)), fun e => h15 (add_ne e (by decide)), fun e => h16 (add_ne e (by decide)), fun e => h17 (add_ne e (by decide)), fun e => h18 (add_ne e (by decide)), fun e => h21 (add_ne e (by decide)), fun e f => h19 (add_ne e (by decide)) (by cases h : L 22 with | false => rfl | true => rw [add_old h] at f; cases f), fun e f => h20 (add_ne e (by decide)) (by cases h : L 22 with | false => rfl | true => rw [add_old h] at f; cases f), fun e => h22 (add_ne e (by decide))⟩
              · -- 8
                have hf22 : L 22 = false := by
                  cases h : L 22 with
                  | false => rfl
                  | true => have := hcl 22 h 8 (by decide +kernel); rw [hni] at this; cases this
                refine wpOp_step rfl fun K hK => ?_
                go_simp
                exact hK _ _ ⟨_, _, _, _, _, _, _, _, _, _, _, _, _, _, _, _, _, _, _, _, _, _, rfl, fun f => hB (by cases h : L 22 with | false => rfl | true => rw [add_old h] at f; cases f), fun e => h0 (add_ne e (by decide)), fun e => h1 (add_ne e (by decide)), fun e => h2 (add_ne e (by decide)), fun e => h3 (add_ne e (by decide)), fun e => h4 (add_ne e (by decide)), fun e => h5 (add_ne e (by decide)), fun e => h6 (add_ne e (by decide)), fun e => h7 (add_ne e (by decide)), fun _ => rfl, fun e => h9 (add_ne e (by decide)), fun e => h10 (add_ne e (by decide)), fun e => h11 (add_ne e (by decide)), fun e => h12 (add_ne e (by decide)), fun e => h13 (add_ne e (by decide)), fun e => h14 (add_ne e (by decide)), fun e => h15 (add_ne e (by decide)), fun e => h16 (add_ne e (by decide)), fun e => h17 (add_ne e (by decide)), fun e => h18 (add_ne e (by decide)), fun e => h21 (add_ne e (by decide)), fun e f => h19 (add_ne e (by decide)) (by cases h : L 22 with | false => rfl | true => rw [add_old h] at f; cases f), fun e f => h20 (add_ne e (by decide)) (by cases h : L 22 with | false => rfl | true => rw [add_old h] at f; cases f), fun e => h22 (add_ne e (by decide))⟩
              · -- 9
                have hf22 : L 22 = false := by
                  cases h : L 22 with
                  | false => rfl
                  | true => have := hcl 22 h 9 (by decide +kernel); rw [hni] at this; cases this
                have e7 := h7 (hdep 7 (by decide +kernel))
                subst e7
                have e8 := h8 (hdep 8 (by decide +kernel))
                subst e8
                refine wpOp_step rfl fun K hK => ?_
                go_simp
                exact hK _ _ ⟨_, _, _, _, _, _, _, _, _, _, _, _, _, _, _, _, _, _, _, _, _, _, rfl, fun f => hB (by cases h : L 22 with | false => rfl | true => rw [add_old h] at f; cases f), fun e => h0 (add_ne e (by decide)), fun e => h1 (add_ne e (by decide)), fun e => h2 (add_ne e (by decide)), fun e => h3 (add_ne e (by decide)), fun e => h4 (add_ne e (by decide)), fun e => h5 (add_ne e (by decide)), fun e => h6 (add_ne e (by decide)), fun e => h7 (add_ne e (by decide)), fun e => h8 (add_ne e (by decide)), fun _ => rfl, fun e => h10 (add_ne e (by decide)), fun e => h11 (add_ne e (by decide)), fun e => h12 (add_ne e (by decide)), fun e => h13 (add_ne e (by decide)), fun e => h14 (add_ne e (by decide)), fun e => h15 (add_ne e (by decide)), fun e => h16 (add_ne e (by decide)), fun e => h17 (add_ne e (by decide)), fun e => h18 (add_ne e (by decide)), fun e => h21 (add_ne e (by decide)), fun e f => h19 (add_ne e (by decide)) (by cases h : L 22 with | false => rfl | true => rw [add_old h] at f; cases f), fun e f => h20 (add_ne e (by decide)) (by cases h : L 22 with | false => rfl | true => rw [add_old h] at f; cases f), fun e => h22 (add_ne e (by decide))⟩
              · -- 10
                have hf22 : L 22 = false := by
                  cases h : L 22 with
                  | false => rfl
                  | true => have := hcl 22 h 10 (by decide +kernel); rw [hni] at this; cases this
                have e9 := h9 (hdep 9 (by decide +kernel))
                subst e9
                refine wpOp_step rfl fun K hK => ?_
                go_simp
                exact hK _ _ ⟨_, _, _, _, _, _, _, _, _, _, _, _, _, _, _, _, _, _, _, _, _, _, rfl, fun f => hB (by cases h : L 22 with | false => rfl | true => rw [add_old h] at f; cases f), fun e => h0 (add_ne e (by decide)), fun e => h1 (add_ne e (by decide)), fun e => h2 (add_ne e (by decide)), fun e => h3 (add_ne e (by decide)), fun e => h4 (add_ne e (by decide)), fun e => h5 (add_ne e (by decide)), fun e => h6 (add_ne e (by decide)), fun e => h7 (add_ne e (by decide)), fun e => h8 (add_ne e (by decide)), fun e => h9 (add_ne e (by decide)), fun _ => rfl, fun e => h11 (add_ne e (by decide)), fun e => h12 (add_ne e (by decide)), fun e => h13 (add_ne e (by decide)), fun e => h14 (add_ne e (by decide)), fun e => h15 (add_ne e (by decide)), fun e => h16 (add_ne e (by decide)), fun e => h17 (add_ne e (by decide)), fun e => h18 (add_ne e (by decide)), fun e => h21 (add_ne e (by decide)), fun e f => h19 (add_ne e (by decide)) (by cases h : L 22 with | false => rfl | true => rw [add_old h] at f; cases f), fun e f => h20 (add_ne e (by decide)) (by cases h : L 22 with | false => rfl | true => rw [add_old h] at f; cases f), fun e => h22 (add_ne e (by decide))⟩
              · -- 11
                have hf22 : L 22 = false := by
                  cases h : L 22 with
                  | false => rfl
                  | true => have := hcl 22 h 11 (by decide +kernel); rw [hni] at this; cases this
                have e10 := h10 (hdep 10 (by decide +kernel))
                subst e10
                have z := ((hB hf22).cell (p := ⟨rb, off + j * 3 + 1, none⟩) hrbl).trans hq1
                refine wpOp_step rfl fun K hK => ?_
                go_simp
                exact hK _ _ ⟨_, _, _, _, _, _, _, _, _, _, _, _, _, _, _, _, _, _, _, _, _, _, rfl, fun f => hB (by cases h : L 22 with | false => rfl | true => rw [add_old h] at f; cases f), fun e => h0 (add_ne e (by decide)), fun e => h1 (add_ne e (by decide)), fun e => h2 (add_ne e (by decide)), fun e => h3 (add_ne e (by decide)), fun e => h4 (add_ne e (by decide)), fun e => h5 (add_ne e (by decide)), fun e => h6 (add_ne e (by decide)), fun e => h7 (add_ne e (by decide)), fun e => h8 (add_ne e (by decide)), fun e => h9 (add_ne e (by decide)), fun e => h10 (add_ne e (by decide)), fun _ => rfl, fun e => h12 (add_ne e (by decide)), fun e => h13 (add_ne e (by decide)), fun e => h14 (add_ne e (by decide)), fun e => h15 (add_ne e (by decide)), fun e => h16 (add_ne e (by decide)), fun e => h17 (add_ne e (by decide)), fun e => h18 (add_ne e (by decide)), fun e => h21 (add_ne e (by decide)), fun e f => h19 (add_ne e (by decide)) (by cases h : L 22 with | false => rfl | true => rw [add_old h] at f; cases f), fun e f => h20 (add_ne e (by decide)) (by cases h : L 22 with | false => rfl | true => rw [add_old h] at f; cases f), fun e => h22 (add_ne e (by decide))⟩
              · -- 12
                have hf22 : L 22 = false := by
                  cases h : L 22 with
                  | false => rfl
                  | true => have := hcl 22 h 12 (by decide +kernel); rw [hni] at this; cases this
                have e6 := h6 (hdep 6 (by decide +kernel))
                subst e6
                have e11 := h11 (hdep 11 (by decide +kernel))
                subst e11
                refine wpOp_step rfl fun K hK => ?_
                go_simp
                exact hK _ _ ⟨_, _, _, _, _, _, _, _, _, _, _, _, _, _, _, _, _, _, _, _, _, _, rfl, fun f => hB (by cases h : L 22 with | false => rfl | true => rw [add_old h] at f; cases f), fun e => h0 (add_ne e (by decide)), fun e => h1 (add_ne e (by decide)), fun e => h2 (add_ne e (by decide)), fun e => h3 (add_ne e (by decide)), fun e => h4 (add_ne e (by decide)), fun e => h5 (add_ne e (by decide)), fun e => h6 (add_ne e (by decide)), fun e => h7 (add_ne e (by decide)), fun e => h8 (add_ne e (by decide)), fun e => h9 (add_ne e (by decide)), fun e => h10 (add_ne e (by decide)), fun e => h11 (add_ne e (by decide)), fun _ => rfl, fun e => h13 (add_ne e (by decide)), fun e => h14 (add_ne e (by decide)), fun e => h15 (add_ne e (by decide)), fun e => h16 (add_ne e (by decide)), fun e => h17 (add_ne e (by decide)), fun e => h18 (add_ne e (by decide)), fun e => h21 (add_ne e (by decide)), fun e f => h19 (add_ne e (by decide)) (by cases h : L 22 with | false => rfl | true => rw [add_old h] at f; cases f), fun e f => h20 (add_ne e (by decide)) (by cases h : L 22 with | false => rfl | true => rw [add_old h] at f; cases f), fun e => h22 (add_ne e (by decide))⟩
              · -- 13
                have hf22 : L 22 = false := by
                  cases h : L 22 with
                  | false => rfl
                  | true => have := hcl 22 h 13 (by decide +kernel); rw [hni] at this; cases this
                have e12 := h12 (hdep 12 (by decide +kernel))
                subst e12
                have z := ((hB hf22).cell (p := ⟨w.heap.size, c * 2, none⟩) hgl).trans s0
                have z' := ((hB hf22).cell (p := ⟨w.heap.size, c * 2 + 1, none⟩) hgl).trans s1
                refine wpOp_step rfl fun K hK => ?_
                go_simp
                exact hK _ _ ⟨_, _, _, _, _, _, _, _, _, _, _, _, _, _, _, _, _, _, _, _, _, _, rfl, fun f => hB (by cases h : L 22 with | false => rfl | true => rw [add_old h] at f; cases f), fun e => h0 (add_ne e (by decide)), fun e => h1 (add_ne e (by decide)), fun e => h2 (add_ne e (by decide)), fun e => h3 (add_ne e (by decide)), fun e => h4 (add_ne e (by decide)), fun e => h5 (add_ne e (by decide)), fun e => h6 (add_ne e (by decide)), fun e => h7 (add_ne e (by decide)), fun e => h8 (add_ne e (by decide)), fun e => h9 (add_ne e (by decide)), fun e => h10 (add_ne e (by decide)), fun e => h11 (add_ne e (by decide)), fun e => h12 (add_ne e (by decide)), fun _ => rfl, fun e => h14 (add_ne e (by decide)), fun e => h15 (add_ne e (by decide)), fun e => h16 (add_ne e (by decide)), fun e => h17 (add_ne e (by decide)), fun e => h18 (add_ne e (by decide)), fun e => h21 (add_ne e (by decide)), fun e f => h19 (add_ne e (by decide)) (by cases h : L 22 with | false => rfl | true => rw [add_old h] at f; cases f), fun e f => h20 (add_ne e (by decide)) (by cases h : L 22 with | false => rfl | true => rw [add_old h] at f; cases f), fun e => h22 (add_ne e (by decide))⟩
              · -- 14
                have hf22 : L 22 = false := by
                  cases h : L 22 with
                  | false => rfl
                  | true => have := hcl 22 h 14 (by decide +kernel); rw [hni] at this; cases this
                refine wpOp_step rfl fun K hK => ?_
                go_simp
                exact hK _ _ ⟨_, _, _, _, _, _, _, _, _, _, _, _, _, _, _, _, _, _, _, _, _, _, rfl, fun f => hB (by cases h : L 22 with | false => rfl | true => rw [add_old h] at f; cases f), fun e => h0 (add_ne e (by decide)), fun e => h1 (add_ne e (by decide)), fun e => h2 (add_ne e (by decide)), fun e => h3 (add_ne e (by decide)), fun e => h4 (add_ne e (by decide)), fun e => h5 (add_ne e (by decide)), fun e => h6 (add_ne e (by decide)), fun e => h7 (add_ne e (by decide)), fun e => h8 (add_ne e (by decide)), fun e => h9 (add_ne e (by decide)), fun e => h10 (add_ne e (by decide)), fun e => h11 (add_ne e (by decide)), fun e => h12 (add_ne e (by decide)), fun e => h13 (add_ne e (by decide)), fun _ => rfl, fun e => h15 (add_ne e (by decide)), fun e => h16 (add_ne e (by decide)), fun e => h17 (add_ne e (by decide)), fun e => h18 (add_ne e (by decide)), fun e => h21 (add_ne e (by decide)), fun e f => h19 (add_ne e (by decide)) (by cases h : L 22 with | false => rfl | true => rw [add_old h] at f; cases f), fun e f => h20 (add_ne e (by decide)) (by cases h : L 22 with | false => rfl | true => rw [add_old h] at f; cases f), fun e => h22 (add_ne e (by decide))⟩
              · -- 15
                have hf22 : L 22 = false := by
                  cases h : L 22 with
                  | false => rfl
                  | true => have := hcl 22 h 15 (by decide +kernel); rw [hni] at this; cases this
                refine wpOp_step rfl fun K hK => ?_
                go_simp
                exact hK _ _ ⟨_, _, _, _, _, _, _, _, _, _, _, _, _, _, _, _, _, _, _, _, _, _, rfl, fun f => hB (by cases h : L 22 with | false => rfl | true => rw [add_old h] at f; cases f), fun e => h0 (add_ne e (by decide)), fun e => h1 (add_ne e (by decide)), fun e => h2 (add_ne e (by decide)), fun e => h3 (add_ne e (by decide)), fun e => h4 (add_ne e (by decide)), fun e => h5 (add_ne e (by decide)), fun e => h6 (add_ne e (by decide)), fun e => h7 (add_ne e (by decide)), fun e => h8 (add_ne e (by decide)), fun e => h9 (add_ne e (by decide)), fun e => h10 (add_ne e (by decide)), fun e => h11 (add_ne e (by decide)), fun e => h12 (add_ne e (by decide)), fun e => h13 (add_ne e (by decide)), fun e => h14 (add_ne e (by decide)), fun _ => rfl, fun e => h16 (add_ne e (by decide)), fun e => h17 (add_ne e (by decide)), fun e => h18 (add_ne e (by decide)), fun e => h21 (add_ne e (by decide)), fun e f => h19 (add_ne e (by decide)) (by cases h : L 22 with | false => rfl | true => rw [add_old h] at f; cases f), fun e f => h20 (add_ne e (by decide)) (by cases h : L 22 with | false => rfl | true => rw [add_old h] at f; cases f), fun e => h22 (add_ne e (by decide))⟩
              · -- 16
                have hf22 : L 22 = false := by
                  cases h : L 22 with
                  | false => rfl
                  | true => have := hcl 22 h 16 (by decide +kernel); rw [hni] at this; cases this
                have e14 := h14 (hdep 14 (by decide +kernel))
                subst e14
                have e15 := h15 (hdep 15 (by decide +kernel))
                subst e15
                refine wpOp_step rfl fun K hK => ?_
                go_simp
                exact hK _ _ ⟨_, _, _, _, _, _, _, _, _, _, _, _, _, _, _, _, _, _, _, _, _, _, rfl, fun f => hB (by cases h : L 22 with | false => rfl | true => rw [add_old h] at f; cases f), fun e => h0 (add_ne e (by decide)), fun e => h1 (add_ne e (by decide)), fun e => h2 (add_ne e (by decide)), fun e => h3 (add_ne e (by decide)), fun e => h4 (add_ne e (by decide)), fun e => h5 (add_ne e (by decide)), fun e => h6 (add_ne e (by decide)), fun e => h7 (add_ne e (by decide)), fun e => h8 (add_ne e (by decide)), fun e => h9 (add_ne e (by decide)), fun e => h10 (add_ne e (by decide)), fun e => h11 (add_ne e (by decide)), fun e => h12 (add_ne e (by decide)), fun e => h13 (add_ne e (by decide)), fun e => h14 (add_ne e (by decide)), fun e => h15 (add_ne e (by decide)), fun _ => rfl, fun e => h17 (add_ne e (by decide)), fun e => h18 (add_ne e (by decide)), fun e => h21 (add_ne e (by decide)), fun e f => h19 (add_ne e (by decide)) (by cases h : L 22 with | false => rfl | true => rw [add_old h] at f; cases f), fun e f => h20 (add_ne e (by decide)) (by cases h : L 22 with | false => rfl | true => rw [add_old h] at f; cases f), fun e => h22 (add_ne e (by decide))⟩
              · -- 17
                have hf22 : L 22 = false := by
                  cases h : L 22 with
                  | false => rfl
                  | true => have := hcl 22 h 17 (by decide +kernel); rw [hni] at this; cases this
                have e16 := h16 (hdep 16 (by decide +kernel))
                subst e16
                refine wpOp_step rfl fun K hK => ?_
                go_simp
                exact hK _ _ ⟨_, _, _, _, _, _, _, _, _, _, _, _, _, _, _, _, _, _, _, _, _, _, rfl, fun f => hB (by cases h : L 22 with | false => rfl | true => rw [add_old h] at f; cases f), fun e => h0 (add_ne e (by decide)), fun e => h1 (add_ne e (by decide)), fun e => h2 (add_ne e (by decide)), fun e => h3 (add_ne e (by decide)), fun e => h4 (add_ne e (by decide)), fun e => h5 (add_ne e (by decide)), fun e => h6 (add_ne e (by decide)), fun e => h7 (add_ne e (by decide)), fun e => h8 (add_ne e (by decide)), fun e => h9 (add_ne e (by decide)), fun e => h10 (add_ne e (by decide)), fun e => h11 (add_ne e (by decide)), fun e => h12 (add_ne e (by decide)), fun e => h13 (add_ne e (by decide)), fun e => h14 (add_ne e (by decide)), fun e => h15 (add_ne e (by decide)), fun e => h16 (add_ne e (by decide)), fun _ => rfl, fun e => h18 (add_ne e (by decide)), fun e => h21 (add_ne e (by decide)), fun e f => h19 (add_ne e (by decide)) (by cases h : L 22 with | false => rfl | true => rw [add_old h] at f; cases f), fun e f => h20 (add_ne e (by decide)) (by cases h : L 22 with | false => rfl | true => rw [add_old h] at f; cases f), fun e => h22 (add_ne e (by decide))⟩
              · -- 18
                have hf22 : L 22 = false := by
                  cases h : L 22 with
                  | false => rfl
                  | true => have := hcl 22 h 18 (by decide +kernel); rw [hni] at this; cases this
                have e17 := h17 (hdep 17 (by decide +kernel))
                subst e17
                have z := ((hB hf22).cell (p := ⟨rb, off + j * 3 + 2, none⟩) hrbl).trans hq2
                refine wpOp_step rfl fun K hK => ?_
                go_simp
                exact hK _ _ ⟨_, _, _, _, _, _, _, _, _, _, _, _, _, _, _, _, _, _, _, _, _, _, rfl, fun f => hB (by cases h : L 22 with | false => rfl | true => rw [add_old h] at f; cases f), fun e => h0 (add_ne e (by decide)), fun e => h1 (add_ne e (by decide)), fun e => h2 (add_ne e (by decide)), fun e => h3 (add_ne e (by decide)), fun e => h4 (add_ne e (by decide)), fun e => h5 (add_ne e (by decide)), fun e => h6 (add_ne e (by decide)), fun e => h7 (add_ne e (by decide)), fun e => h8 (add_ne e (by decide)), fun e => h9 (add_ne e (by decide)), fun e => h10 (add_ne e (by decide)), fun e => h11 (add_ne e (by decide)), fun e => h12 (add_ne e (by decide)), fun e => h13 (add_ne e (by decide)), fun e => h14 (add_ne e (by decide)), fun e => h15 (add_ne e (by decide)), fun e => h16 (add_ne e (by decide)), fun e => h17 (add_ne e (by decide)), fun _ => rfl, fun e => h21 (add_ne e (by decide)), fun e f => h19 (add_ne e (by decide)) (by cases h : L 22 with | false => rfl | true => rw [add_old h] at f; cases f), fun e f => h20 (add_ne e (by decide)) (by cases h : L 22 with | false => rfl | true => rw [add_old h] at f; cases f), fun e => h22 (add_ne e (by decide))⟩
              · -- 19
                have hf22 : L 22 = false := by
                  cases h : L 22 with
                  | false => rfl
                  | true => have := hcl 22 h 19 (by decide +kernel); rw [hni] at this; cases this
                have e18 := h18 (hdep 18 (by decide +kernel))
                subst e18
                refine wpOp_step rfl fun K hK => ?_
                go_simp
                go_at_call 38
                refine (hof.out wz).mono ?_
                rintro e w1 ⟨vv, rfl, hvv, hb1⟩
                go_simp
                exact hK _ _ ⟨_, _, _, _, _, _, _, _, _, _, _, _, _, _, _, _, _, _, _, _, _, _, rfl, fun f => (hB hf22).trans (hb1.mono (hB hf22).size), fun e => h0 (add_ne e (by decide)), fun e => h1 (add_ne e (by decide)), fun e => h2 (add_ne e (by decide)), fun e => h3 (add_ne e (by decide)), fun e => h4 (add_ne e (by decide)), fun e => h5 (add_ne e (by decide)), fun e => h6 (add_ne e (by decide)), fun e => h7 (add_ne e (by decide)), fun e => h8 (add_ne e (by decide)), fun e => h9 (add_ne e (by decide)), fun e => h10 (add_ne e (by decide)), fun e => h11 (add_ne e (by decide)), fun e => h12 (add_ne e (by decide)), fun e => h13 (add_ne e (by decide)), fun e => h14 (add_ne e (by decide)), fun e => h15 (add_ne e (by decide)), fun e => h16 (add_ne e (by decide)), fun e => h17 (add_ne e (by decide)), fun e => h18 (add_ne e (by decide)), fun e => h21 (add_ne e (by decide)), fun _ _ => hvv, fun e f => let ⟨n2, p2, l2, c2, e1, e2⟩ := h20 (add_ne e (by decide)) hf22; ⟨n2, p2, l2, c2, e1, e2.kept hb1⟩, fun e => absurd (add_ne e (by decide)) (by rw [hf22]; decide)⟩
              · -- 20
                have hf22 : L 22 = false := by
                  cases h : L 22 with
                  | false => rfl
                  | true => have := hcl 22 h 20 (by decide +kernel); rw [hni] at this; cases this
                have e13 := h13 (hdep 13 (by decide +kernel))
                subst e13
                have hv64 := h19 (hdep 19 (by decide +kernel)) hf22
                have hA := addB_any _ v64 (5 + j) (sumN ps j c) x wz (hsB.out.kept (hB hf22)) (hv64.wide (by omega)) (by omega)
                refine wpOp_step rfl fun K hK => ?_
                go_simp
                go_at_call 37
                refine hA.mono ?_
                rintro e w1 ⟨vv, rfl, hvv, hb1⟩
                go_simp
                exact hK _ _ ⟨_, _, _, _, _, _, _, _, _, _, _, _, _, _, _, _, _, _, _, _, _, _, rfl, fun f => (hB hf22).trans (hb1.mono (hB hf22).size), fun e => h0 (add_ne e (by decide)), fun e => h1 (add_ne e (by decide)), fun e => h2 (add_ne e (by decide)), fun e => h3 (add_ne e (by decide)), fun e => h4 (add_ne e (by decide)), fun e => h5 (add_ne e (by decide)), fun e => h6 (add_ne e (by decide)), fun e => h7 (add_ne e (by decide)), fun e => h8 (add_ne e (by decide)), fun e => h9 (add_ne e (by decide)), fun e => h10 (add_ne e (by decide)), fun e => h11 (add_ne e (by decide)), fun e => h12 (add_ne e (by decide)), fun e => h13 (add_ne e (by decide)), fun e => h14 (add_ne e (by decide)), fun e => h15 (add_ne e (by decide)), fun e => h16 (add_ne e (by decide)), fun e => h17 (add_ne e (by decide)), fun e => h18 (add_ne e (by decide)), fun e => h21 (add_ne e (by decide)), fun e f => (h19 (add_ne e (by decide)) hf22).kept hb1, fun _ _ => (by obtain ⟨n2, p2, l2, c2, ds, e1, r⟩ := hvv; subst e1; exact ⟨n2, p2, l2, c2, rfl, n2, p2, l2, c2, ds, rfl, r⟩), fun e => absurd (add_ne e (by decide)) (by rw [hf22]; decide)⟩
              · -- 21
                have hf22 : L 22 = false := by
                  cases h : L 22 with
                  | false => rfl
                  | true => have := hcl 22 h 21 (by decide +kernel); rw [hni] at this; cases this
                have e0 := h0 (hdep 0 (by decide +kernel))
                subst e0
                have e5 := h5 (hdep 5 (by decide +kernel))
                subst e5
                refine wpOp_step rfl fun K hK => ?_
                go_simp
                exact hK _ _ ⟨_, _, _, _, _, _, _, _, _, _, _, _, _, _, _, _, _, _, _, _, _, _, rfl, fun f => hB (by cases h : L 22 with | false => rfl | true => rw [add_old h] at f; cases f), fun e => h0 (add_ne e (by decide)), fun e => h1 (add_ne e (by decide)), fun e => h2 (add_ne e (by decide)), fun e => h3 (add_ne e (by decide)), fun e => h4 (add_ne e (by decide)), fun e => h5 (add_ne e (by decide)), fun e => h6 (add_ne e (by decide)), fun e => h7 (add_ne e (by decide)), fun e => h8 (add_ne e (by decide)), fun e => h9 (add_ne e (by decide)), fun e => h10 (add_ne e (by decide)), fun e => h11 (add_ne e (by decide)), fun e => h12 (add_ne e (by decide)), fun e => h13 (add_ne e (by decide)), fun e => h14 (add_ne e (by decide)), fun e => h15 (add_ne e (by decide)), fun e => h16 (add_ne e (by decide)), fun e => h17 (add_ne e (by decide)), fun e => h18 (add_ne e (by decide)), fun _ => rfl, fun e f => h19 (add_ne e (by decide)) (by cases h : L 22 with | false => rfl | true => rw [add_old h] at f; cases f), fun e f => h20 (add_ne e (by decide)) (by cases h : L 22 with | false => rfl | true => rw [add_old h] at f; cases f), fun e => h22 (add_ne e (by decide))⟩
              · -- 22
                have e21 := h21 (hdep 21 (by decide +kernel))
                subst e21
                obtain ⟨n2, p2, l2, c2, e65, hv65⟩ := h20 (hdep 20 (by decide +kernel)) hni
                subst e65
                have hBz := hB hni
                have z := (hBz.cell (p := ⟨w.heap.size, c * 2, none⟩) hgl).trans s0
                have z' := (hBz.cell (p := ⟨w.heap.size, c * 2 + 1, none⟩) hgl).trans s1
                have hSz := hT.out.sums.below hBz
                have zf := hSz.free
                have hput := hSz.put hc hv65
                rw [hsucc.out] at hput
                refine wpOp_step rfl fun K hK => ?_
                go_simp
                exact hK _ _ ⟨_, _, _, _, _, _, _, _, _, _, _, _, _, _, _, _, _, _, _, _, _, _, rfl, fun f => (by rw [add_iff.2 (.inr rfl : L 22 = true ∨ 22 = 22)] at f; cases f), fun e => h0 (add_ne e (by decide)), fun e => h1 (add_ne e (by decide)), fun e => h2 (add_ne e (by decide)), fun e => h3 (add_ne e (by decide)), fun e => h4 (add_ne e (by decide)), fun e => h5 (add_ne e (by decide)), fun e => h6 (add_ne e (by decide)), fun e => h7 (add_ne e (by decide)), fun e => h8 (add_ne e (by decide)), fun e => h9 (add_ne e (by decide)), fun e => h10 (add_ne e (by decide)), fun e => h11 (add_ne e (by decide)), fun e => h12 (add_ne e (by decide)), fun e => h13 (add_ne e (by decide)), fun e => h14 (add_ne e (by decide)), fun e => h15 (add_ne e (by decide)), fun e => h16 (add_ne e (by decide)), fun e => h17 (add_ne e (by decide)), fun e => h18 (add_ne e (by decide)), fun e => h21 (add_ne e (by decide)), fun e f => (by rw [add_iff.2 (.inr rfl : L 22 = true ∨ 22 = 22)] at f; cases f), fun e f => (by rw [add_iff.2 (.inr rfl : L 22 = true ∨ 22 = 22)] at f; cases f), fun _ => ⟨hput, ((hT.out.blw.trans (hBz.mono hws)).setCell (Nat.le_refl _) _).setCell (Nat.le_refl _) _⟩⟩
            · intro L az wz hI hL
              obtain ⟨v45, v46, v47, v48, v49, v50, v51, v52, v53, v54, v55, v56, v57, v58, v59, v60, v61, v62, v63, v64, v65, v66, rfl, hB, h0, h1, h2, h3, h4, h5, h6, h7, h8, h9, h10, h11, h12, h13, h14, h15, h16, h17, h18, h21, h19, h20, h22⟩ := hI
              have hfin := h22 (hL 22 (by decide))
              refine hK1 _ _ (Met.intro (hJ1 _ _ ?_))
              (repeat apply Exists.intro)
              refine ⟨?rel, rfl⟩
              case rel => exact Lib.hid hfin
          case rest =>
            go_wp2_with fail
            go_roundw
            case rel => exact ⟨j + 1, by omega, by go_num, hcut⟩
            case measure => simp [intOf]; omega
        · obtain rfl : j = k := by omega
          have hkz2 : ¬ (j : Int) < (j : Int) := by omega
          have hall : ∀ c : Nat, sumN ps j c = sumC (c : Nat) ps := fun c => by unfold sumN; rw [List.take_of_length_le (by omega)]
          replace hall := Lib.hid hall
          go_wp2_with fail
          go_loop [8] (fun i => ∃ c : Nat, c ≤ l.nc ∧ i = .int .i64 (c : Int) ∧ Hid (∀ d : Nat, d < c → sumC (d : Nat) ps = 0)) (fun i => l.nc - (intOf i).toNat)
          case atStart => exact ⟨0, by omega, rfl, Lib.hid fun d hd => by omega⟩
          case round =>
            obtain ⟨c, hc, rfl, hZ⟩ := hrel
            by_cases hcn : c < l.nc
            · have cz : (c : Int) < (l.nc : Int) := by omega
              obtain ⟨neg, sp, sl, sc, s0, s1, hsB⟩ := hSs.out.sums.at hcn
              have hnil := isB_nil hsB
              rw [hall.out c] at hnil
              replace hsB := Lib.hid hsB
              replace hnil := Lib.hid hnil
              by_cases hpos : 0 < sl
              · have hpz : (0 : Int) < (sl : Int) := by omega
                have hfin : RDid P b (l.post ps) w (.returned (.int .i64 12)) wr := by
                  have e : l.post ps = (12, l) := post_uneven hkn.out (by
                    cases he : l.even ps with
                    | false => rfl
                    | true => exact absurd (even_iff.1 he c hcn) (hnil.out.1 hpos))
                  exact ⟨by rw [e], by rw [e]; exact RL.of (h.out.below hSs.out.blw), Kp.of_below hSs.out.blw⟩
                replace hfin := Lib.hid hfin
                go_wp2_with fail
                go_ret
                exact hfin.out
              · obtain rfl : sl = 0 := by omega
                have hZ2 : Hid (∀ d : Nat, d < c + 1 → sumC (d : Nat) ps = 0) := Lib.hid fun d hd => by
                  by_cases e : d = c
                  · subst e
                    by_cases e0 : sumC (d : Nat) ps = 0
                    · exact e0
                    · exact absurd (hnil.out.2 e0) (by omega)
                  · exact hZ.out d (by omega)
                go_wp2_with fail
                go_round
                case rel => exact ⟨c + 1, by omega, by go_num, hZ2⟩
                case measure => simp [intOf]; omega
            · obtain rfl : c = l.nc := by omega
              have cz : ¬ (l.nc : Int) < (l.nc : Int) := by omega
              have hev : l.even ps = true := even_iff.2 hZ.out
              have hblw := hSs.out.blw
              have cC := copyRL_any wr (RL.of (h.out.below hblw)) hl.out
              replace cC := Lib.hid cC
              replace hev := Lib.hid hev
              replace hblw := Lib.hid hblw
              go_wp2_with fail
              with_reducible refine cC.out.mono ?_
              rintro e w6 ⟨b', rfl, hR6, hB6⟩
              obtain ⟨gB', cB', gN', cN', g', cp', hR6⟩ := hR6
              have hB6' : Below w.heap.size w w6 := hblw.out.trans (hB6.mono hblw.out.size)
              have hS6 : RT w l ps b' 0 l.B gB' cB' gN' cN' g' cp' w6 := ⟨⟨hR6.obj, hR6.rows, hR6.nos, hR6.bal, hR6.apart, Nat.le_trans hblw.out.size hR6.own.1, Nat.le_trans hblw.out.size hR6.own.2.1, Nat.le_trans hblw.out.size hR6.own.2.2.1, fun m hm => Nat.le_trans hblw.out.size (hR6.own.2.2.2 m hm)⟩, rfl, hl.out.b, hB6'⟩
              replace hS6 := Lib.hid hS6
              replace hR6 := Lib.hid hR6
              replace hB6 := Lib.hid hB6
              replace hB6' := Lib.hid hB6'
              go_wp2_with fail
              go_loopw [10] (fun i wr => ∃ (k : Nat) (C : Nat → Nat → Int), k ≤ j ∧ i = .int .i64 (k : Int) ∧ Hid (RT w l ps b' k C gB' cB' gN' cN' g' cp' wr)) (fun i _ => j - (intOf i).toNat)
              case atStart => exact ⟨0, _, by omega, rfl, hS6⟩
              case round =>
                obtain ⟨k, C, hk, rfl, hSt⟩ := hrel
                have hTt := hSt.out
                by_cases hkj : k < j
                · have hkz : (k : Int) < (j : Int) := by omega
                  obtain ⟨_, hin, hrw⟩ := hrow.out
                  obtain ⟨rb, off, rfl, hbs, hcells⟩ := hrw.resolve_left (by omega)
                  obtain ⟨q, hq⟩ : ∃ q, ps[k]? = some q := ⟨ps[k], List.getElem?_eq_getElem (by omega)⟩
                  obtain ⟨q0, q1, q2⟩ := hcells k q hq
                  replace q0 := (hTt.blw.cell (p := ⟨rb, off + k * 3, none⟩) hbs).trans q0
                  replace q1 := (hTt.blw.cell (p := ⟨rb, off + k * 3 + 1, none⟩) hbs).trans q1
                  replace q2 := (hTt.blw.cell (p := ⟨rb, off + k * 3 + 2, none⟩) hbs).trans q2
                  have hqi := hin q (List.mem_of_getElem? hq)
                  obtain ⟨m, c, hqm, hqc, hm, hc⟩ := LM.has_nat (known_mem hkn.out q (List.mem_of_getElem? hq))
                  rw [hqm] at q0
                  rw [hqc] at q1
                  have hstep := goP_step hq C
                  rw [hTt.go, hqm, hqc, Int.toNat_natCast, Int.toNat_natCast] at hstep
                  have hmz : (m : Int) < (l.nm : Int) := by omega
                  have hcz : (c : Int) < (l.nc : Int) := by omega
                  have hx64 := hqi.2.2
                  generalize q.a = x at *
                  have hic := hTt.ic m c
                  have hofC := fun w => of_any (C m c) w hic.1 hic.2
                  have hofx := fun w => of_any x w hx64.1 hx64.2
                  have hbx := heap_alloc_new wr (.cells #[.int .i64 (m : Int), .int .i64 (c : Int), .int .i64 x] 65)
                  have hB1 : Below w.heap.size w (wr.alloc (.cells #[.int .i64 (m : Int), .int .i64 (c : Int), .int .i64 x] 65)) := hTt.blw.alloc hTt.blw.size _
                  have hL1 := hTt.led.below ((Below.refl _ wr).alloc (Nat.le_refl _) (.cells #[.int .i64 (m : Int), .int .i64 (c : Int), .int .i64 x] 65))
                  replace hTt := Lib.hid hTt
                  replace hcells := Lib.hid hcells
                  replace hin := Lib.hid hin
                  replace hrw := Lib.hid hrw
                  replace hqi := Lib.hid hqi
                  replace hqm := Lib.hid hqm
                  replace hqc := Lib.hid hqc
                  replace hq := Lib.hid hq
                  replace hstep := Lib.hid hstep
                  replace hx64 := Lib.hid hx64
                  replace hic := Lib.hid hic
                  replace hofC := Lib.hid hofC
                  replace hofx := Lib.hid hofx
                  generalize hv1 : wr.alloc (.cells #[.int .i64 (m : Int), .int .i64 (c : Int), .int .i64 x] 65) = u at *
                  have hbl := obj_lt hbx
                  have d0 : u.cell? ⟨wr.heap.size, 0, none⟩ = some (.int .i64 (m : Int)) := obj_cell hbx rfl
                  have d1 : u.cell? ⟨wr.heap.size, 1, none⟩ = some (.int .i64 (c : Int)) := obj_cell hbx rfl
                  have d2 : u.cell? ⟨wr.heap.size, 2, none⟩ = some (.int .i64 x) := obj_cell hbx rfl
                  have m0 := hL1.c0
                  have m1 := hL1.row hm
                  have m2 := (hL1.bal m hm).cell hc
                  have l0 := obj_lt hL1.obj
                  have l1 := World.block_lt_of_cell? _ _ m1
                  have l2 := (hL1.bal m hm).lt
                  dsimp only at m0 m1 m2
                  replace hbx := Lib.hid hbx
                  replace hB1 := Lib.hid hB1
                  replace hL1 := Lib.hid hL1
                  replace hv1 := Lib.hid hv1
                  go_upto_region 21 with (fail)
                  change Code.wp _ _ _ _ (wr.alloc (.cells #[.int .i64 (m : Int), .int .i64 (c : Int), .int .i64 x] 65))
                  rw [hv1.out]
                  go_cut [12, 13] from 92 to 112 (fun v12 v13 wc => v12 = .int .i64 (fitRV (C m c + x)) ∧ v13 = .int .i64 (fitRE (C m c + x)) ∧ Hid (Below u.heap.size u wc))
                  case first =>
                    rename_i J1 K1 hJ1 hK1
                    refine wp_region_closed (by kernel_rfl) (fun L az wz => ∃ v12 v13 v92 v93 v94 v95 v96 v97 v98 v99 v100 v101 v102 v103 v104 v105 v106 v107 v108 v109 v110 v111 v112 : Value, az = ({ tmps := (.pointer (some ⟨b, 0, none⟩) :: Value.slice (some ⟨rb, off, none⟩) j cap :: undef :: undef :: u4 :: Value.slice (some ⟨w.heap.size, 0, none⟩) l.nc l.nc :: .int .i64 (j : Int) :: .int .i64 (j : Int) :: .int .i64 (l.nc : Int) :: .pointer (some ⟨b', 0, none⟩) :: .int .i64 (k : Int) :: .pointer (some ⟨wr.heap.size, 0, none⟩) :: v12 :: v13 :: .pointer (some ⟨b, 0, none⟩) :: .pointer (some ⟨b, 0, none⟩) :: .pointer (some ⟨b, 1, none⟩) :: Value.slice (some ⟨gN, 0, none⟩) l.nc cN :: .int .i64 (l.nc : Int) :: Value.slice (some ⟨w.heap.size, 0, none⟩) l.nc l.nc :: .int .i64 (j : Int) :: Value.slice (some ⟨rb, off, none⟩) j cap :: .int .i64 (j : Int) :: .bool false :: u24 :: u25 :: u26 :: u27 :: u28 :: u29 :: u30 :: u31 :: u32 :: u33 :: u34 :: u35 :: u36 :: u37 :: u38 :: .int .i64 (j : Int) :: Value.slice (some ⟨rb, off, none⟩) j cap :: .int .i64 (j : Int) :: .bool false :: u43 :: u44 :: u45 :: u46 :: u47 :: u48 :: u49 :: u50 :: u51 :: u52 :: u53 :: u54 :: u55 :: u56 :: u57 :: u58 :: u59 :: u60 :: u61 :: u62 :: u63 :: u64 :: u65 :: u66 :: .int .i64 (l.nc : Int) :: Value.slice (some ⟨w.heap.size, 0, none⟩) l.nc l.nc :: .int .i64 (l.nc : Int) :: .bool false :: u71 :: u72 :: u73 :: u74 :: u75 :: u76 :: u77 :: u78 :: u79 :: .pointer (some ⟨b, 0, none⟩) :: .pointer (some ⟨b', 0, none⟩) :: .int .i64 (k : Int) :: Value.slice (some ⟨rb, off, none⟩) j cap :: .int .i64 (j : Int) :: .bool true :: u86 :: u87 :: Value.slice (some ⟨rb, off, none⟩) j cap :: .int .i64 (k : Int) :: .pointer (some ⟨rb, off + k * 3, none⟩) :: .agg #[.int .i64 (m : Int), .int .i64 (c : Int), .int .i64 x] :: v92 :: v93 :: v94 :: v95 :: v96 :: v97 :: v98 :: v99 :: v100 :: v101 :: v102 :: v103 :: v104 :: v105 :: v106 :: v107 :: v108 :: v109 :: v110 :: v111 :: v112 :: u113 :: u114 :: u115 :: u116 :: u117 :: u118 :: u119 :: u120 :: u121 :: u122 :: u123 :: u124 :: u125 :: u126 :: u127 :: undef :: undef :: undef :: undef :: undef :: undef :: undef :: []).toArray, defers := [] } : Act) ∧ Below u.heap.size u wz ∧ (L 0 = true → v93 = .pointer (some ⟨b', 0, none⟩)) ∧ (L 1 = true → v94 = .pointer (some ⟨b', 0, none⟩)) ∧ (L 2 = true → v95 = .pointer (some ⟨b', 0, none⟩)) ∧ (L 3 = true → v96 = Value.slice (some ⟨gB', 0, none⟩) l.nm cB') ∧ (L 4 = true → v97 = .pointer (some ⟨wr.heap.size, 0, none⟩)) ∧ (L 5 = true → v98 = .int .i64 (m : Int)) ∧ (L 6 = true → v99 = .pointer (some ⟨gB', m, none⟩)) ∧ (L 7 = true → v100 = Value.slice (some ⟨g' m, 0, none⟩) l.nc (cp' m)) ∧ (L 8 = true → v101 = .pointer (some ⟨wr.heap.size, 1, none⟩)) ∧ (L 9 = true → v102 = .int .i64 (c : Int)) ∧ (L 10 = true → v103 = .pointer (some ⟨g' m, c, none⟩)) ∧ (L 11 = true → v104 = .int .i64 (C m c)) ∧ (L 13 = true → v106 = .pointer (some ⟨wr.heap.size, 2, none⟩)) ∧ (L 14 = true → v107 = .int .i64 x) ∧ (L 17 = true → v110 = .tuple #[.int .i64 (fitRV (C m c + x)), .int .i64 (fitRE (C m c + x))]) ∧ (L 18 = true → v92 = .tuple #[.int .i64 (fitRV (C m c + x)), .int .i64 (fitRE (C m c + x))]) ∧ (L 19 = true → v111 = .int .i64 (fitRV (C m c + x))) ∧ (L 20 = true → v112 = .int .i64 (fitRE (C m c + x))) ∧ (L 21 = true → v12 = .int .i64 (fitRV (C m c + x))) ∧ (L 22 = true → v13 = .int .i64 (fitRE (C m c + x))) ∧ (L 12 = true → IsB wz v105 5 (C m c)) ∧ (L 15 = true → IsB wz v108 5 x) ∧ (L 16 = true → IsB wz v109 6 (C m c + x))) (by kernel_rfl) ?_ ?_ ?_
                    · exact ⟨_, _, _, _, _, _, _, _, _, _, _, _, _, _, _, _, _, _, _, _, _, _, _, rfl, (Below.refl _ _).drew, nofun, nofun, nofun, nofun, nofun, nofun, nofun, nofun, nofun, nofun, nofun, nofun, nofun, nofun, nofun, nofun, nofun, nofun, nofun, nofun, nofun, nofun, nofun⟩
                    · intro L az wz i hi hni hI hdep hcl
                      obtain ⟨v12, v13, v92, v93, v94, v95, v96, v97, v98, v99, v100, v101, v102, v103, v104, v105, v106, v107, v108, v109, v110, v111, v112, rfl, hB, h0, h1, h2, h3, h4, h5, h6, h7, h8, h9, h10, h11, h13, h14, h17, h18, h19, h20, h21, h22, h12, h15, h16⟩ := hI
                      have hcase : i = 0 ∨ i = 1 ∨ i = 2 ∨ i = 3 ∨ i = 4 ∨ i = 5 ∨ i = 6 ∨ i = 7 ∨ i = 8 ∨ i = 9 ∨ i = 10 ∨ i = 11 ∨ i = 12 ∨ i = 13 ∨ i = 14 ∨ i = 15 ∨ i = 16 ∨ i = 17 ∨ i = 18 ∨ i = 19 ∨ i = 20 ∨ i = 21 ∨ i = 22 := by
                        have hi2 : i < 23 := hi
                        omega
                      rcases hcase with rfl | rfl | rfl | rfl | rfl | rfl | rfl | rfl | rfl | rfl | rfl | rfl | rfl | rfl | rfl | rfl | rfl | rfl | rfl | rfl | rfl | rfl | rfl
                      · -- 0
                        refine wpOp_step rfl fun K hK => ?_
                        go_simp
                        exact hK _ _ ⟨_, _, _, _, _, _, _, _, _, _, _, _, _, _, _, _, _, _, _, _, _, _, _, rfl, hB, fun _ => rfl, fun e => h1 (add_ne e (by decide)), fun e => h2 (add_ne e (by decide)), fun e => h3 (add_ne e (by decide)), fun e => h4 (add_ne e (by decide)), fun e => h5 (add_ne e (by decide)), fun e => h6 (add_ne e (by decide)), fun e => h7 (add_ne e (by decide)), fun e => h8 (add_ne e (by decide)), fun e => h9 (add_ne e (by decide)), fun e => h10 (add_ne e (by decide)), fun e => h11 (add_ne e (by decide)), fun e => h13 (add_ne e (by decide)), fun e => h14 (add_ne e (by decide)), fun e => h17 (add_ne e (by decide)), fun e => h18 (add_ne e (by decide)), fun e => h19 (add_ne e (by decide)), fun e => h20 (add_ne e (by decide)), fun e => h21 (add_ne e (by decide)), fun e => h22 (add_ne e (by decide)), fun e => h12 (add_ne e (by decide)), fun e => h15 (add_ne e (by decide)), fun e => h16 (add_ne e (by decide))⟩
                      · -- 1
                        have e0 := h0 (hdep 0 (by decide +kernel))
                        subst e0
                        refine wpOp_step rfl fun K hK => ?_
                        go_simp
                        exact hK _ _ ⟨_, _, _, _, _, _, _, _, _, _, _, _, _, _, _, _, _, _, _, _, _, _, _, rfl, hB, fun e => h0 (add_ne e (by decide)), fun _ => rfl, fun e => h2 (add_ne e (by decide)), fun e => h3 (add_ne e (by decide)), fun e => h4 (add_ne e (by decide)), fun e => h5 (add_ne e (by decide)), fun e => h6 (add_ne e (by decide)), fun e => h7 (add_ne e (by decide)), fun e => h8 (add_ne e (by decide)), fun e => h9 (add_ne e (by decide)), fun e => h10 (add_ne e (by decide)), fun e => h11 (add_ne e (by decide)), fun e => h13 (add_ne e (by decide)), fun e => h14 (add_ne e (by decide)), fun e => h17 (add_ne e (by decide)), fun e => h18 (add_ne e (by decide)), fun e => h19 (add_ne e (by decide)), fun e => h20 (add_ne e (by decide)), fun e => h21 (add_ne e (by decide)), fun e => h22 (add_ne e (by decide)), fun e => h12 (add_ne e (by decide)), fun e => h15 (add_ne e (by decide)), fun e => h16 (add_ne e (by decide))⟩
                      · -- 2
                        have e1 := h1 (hdep 1 (by decide +kernel))
                        subst e1
                        refine wpOp_step rfl fun K hK => ?_
                        go_simp
                        exact hK _ _ ⟨_, _, _, _, _, _, _, _, _, _, _, _, _, _, _, _, _, _, _, _, _, _, _, rfl, hB, fun e => h0 (add_ne e (by decide)), fun e => h1 (add_ne e (by decide)), fun _ => rfl, fun e => h3 (add_ne e (by decide)), fun e => h4 (add_ne e (by decide)), fun e => h5 (add_ne e (by decide)), fun e => h6 (add_ne e (by decide)), fun e => h7 (add_ne e (by decide)), fun e => h8 (add_ne e (by decide)), fun e => h9 (add_ne e (by decide)), fun e => h10 (add_ne e (by decide)), fun e => h11 (add_ne e (by decide)), fun e => h13 (add_ne e (by decide)), fun e => h14 (add_ne e (by decide)), fun e => h17 (add_ne e (by decide)), fun e => h18 (add_ne e (by decide)), fun e => h19 (add_ne e (by decide)), fun e => h20 (add_ne e (by decide)), fun e => h21 (add_ne e (by decide)), fun e => h22 (add_ne e (by decide)), fun e => h12 (add_ne e (by decide)), fun e => h15 (add_ne e (by decide)), fun e => h16 (add_ne e (by decide))⟩
                      · -- 3
                        have e2 := h2 (hdep 2 (by decide +kernel))
                        subst e2
                        have z := (hB.cell (p := ⟨b', 0, none⟩) l0).trans m0
                        refine wpOp_step rfl fun K hK => ?_
                        go_simp
                        exact hK _ _ ⟨_, _, _, _, _, _, _, _, _, _, _, _, _, _, _, _, _, _, _, _, _, _, _, rfl, hB, fun e => h0 (add_ne e (by decide)), fun e => h1 (add_ne e (by decide)), fun e => h2 (add_ne e (by decide)), fun _ => rfl, fun e => h4 (add_ne e (by decide)), fun e => h5 (add_ne e (by decide)), fun e => h6 (add_ne e (by decide)), fun e => h7 (add_ne e (by decide)), fun e => h8 (add_ne e (by decide)), fun e => h9 (add_ne e (by decide)), fun e => h10 (add_ne e (by decide)), fun e => h11 (add_ne e (by decide)), fun e => h13 (add_ne e (by decide)), fun e => h14 (add_ne e (by decide)), fun e => h17 (add_ne e (by decide)), fun e => h18 (add_ne e (by decide)), fun e => h19 (add_ne e (by decide)), fun e => h20 (add_ne e (by decide)), fun e => h21 (add_ne e (by decide)), fun e => h22 (add_ne e (by decide)), fun e => h12 (add_ne e (by decide)), fun e => h15 (add_ne e (by decide)), fun e => h16 (add_ne e (by decide))⟩
                      · -- 4
                        refine wpOp_step rfl fun K hK => ?_
                        go_simp
                        exact hK _ _ ⟨_, _, _, _, _, _, _, _, _, _, _, _, _, _, _, _, _, _, _, _, _, _, _, rfl, hB, fun e => h0 (add_ne e (by decide)), fun e => h1 (add_ne e (by decide)), fun e => h2 (add_ne e (by decide)), fun e => h3 (add_ne e (by decide)), fun _ => rfl, fun e => h5 (add_ne e (by decide)), fun e => h6 (add_ne e (by decide)), fun e => h7 (add_ne e (by decide)), fun e => h8 (add_ne e (by decide)), fun e => h9 (add_ne e (by decide)), fun e => h10 (add_ne e (by decide)), fun e => h11 (add_ne e (by decide)), fun e => h13 (add_ne e (by decide)), fun e => h14 (add_ne e (by decide)), fun e => h17 (add_ne e (by decide)), fun e => h18 (add_ne e (by decide)), fun e => h19 (add_ne e (by decide)), fun e => h20 (add_ne e (by decide)), fun e => h21 (add_ne e (by decide)), fun e => h22 (add_ne e (by decide)), fun e => h12 (add_ne e (by decide)), fun e => h15 (add_ne e (by decide)), fun e => h16 (add_ne e (by decide))⟩
                      · -- 5
                        have e4 := h4 (hdep 4 (by decide +kernel))
                        subst e4
                        have z := (hB.cell (p := ⟨wr.heap.size, 0, none⟩) hbl).trans d0
                        refine wpOp_step rfl fun K hK => ?_
                        go_simp
                        exact hK _ _ ⟨_, _, _, _, _, _, _, _, _, _, _, _, _, _, _, _, _, _, _, _, _, _, _, rfl, hB, fun e => h0 (add_ne e (by decide)), fun e => h1 (add_ne e (by decide)), fun e => h2 (add_ne e (by decide)), fun e => h3 (add_ne e (by decide)), fun e => h4 (add_ne e (by decide)), fun _ => rfl, fun e => h6 (add_ne e (by decide)), fun e => h7 (add_ne e (by decide)), fun e => h8 (add_ne e (by decide)), fun e => h9 (add_ne e (by decide)), fun e => h10 (add_ne e (by decide)), fun e => h11 (add_ne e (by decide)), fun e => h13 (add_ne e (by decide)), fun e => h14 (add_ne e (by decide)), fun e => h17 (add_ne e (by decide)), fun e => h18 (add_ne e (by decide)), fun e => h19 (add_ne e (by decide)), fun e => h20 (add_ne e (by decide)), fun e => h21 (add_ne e (by decide)), fun e => h22 (add_ne e (by decide)), fun e => h12 (add_ne e (by decide)), fun e => h15 (add_ne e (by decide)), fun e => h16 (add_ne e (by decide))⟩
                      · -- 6
                        have e3 := h3 (hdep 3 (by decide +kernel))
                        subst e3
                        have e5 := h5 (hdep 5 (by decide +kernel))
                        subst e5
                        refine wpOp_step rfl fun K hK => ?_
                        go_simp
                        exact hK _ _ ⟨_, _, _, _, _, _, _, _, _, _, _, _, _, _, _, _, _, _, _, _, _, _, _, rfl, hB, fun e => h0 (add_ne e (by decide)), fun e => h1 (add_ne e (by decide)), fun e => h2 (add_ne e (by decide)), fun e => h3 (add_ne e (by decide)), fun e => h4 (add_ne e (by decide)), fun e => h5 (add_ne e (by decide)), fun _ => rfl, fun e => h7 (add_ne e (by decide)), fun e => h8 (add_ne e (by decide)), fun e => h9 (add_ne e (by decide)), fun e => h10 (add_ne e (by decide)), fun e => h11 (add_ne e (by decide)), fun e => h13 (add_ne e (by decide)), fun e => h14 (add_ne e (by decide)), fun e => h17 (add_ne e (by decide)), fun e => h18 (add_ne e (by decide)), fun e => h19 (add_ne e (by decide)), fun e => h20 (add_ne e (by decide)), fun e => h21 (add_ne e (by decide)), fun e => h22 (add_ne e (by decide)), fun e => h12 (add_ne e (by decide)), fun e => h15 (add_ne e (by decide)), fun e => h16 (add_ne e (by decide))⟩
                      · -- 7
                        have e6 := h6 (hdep 6 (by decide +kernel))
                        subst e6
                        have z := (hB.cell (p := ⟨gB', m, none⟩) l1).trans m1
                        refine wpOp_step rfl fun K hK => ?_
                        go_simp
                        exact hK _ _ ⟨_, _, _, _, _, _, _, _, _, _, _, _, _, _, _, _, _, _, _, _, _, _, _, rfl, hB, fun e => h0 (add_ne e (by decide)), fun e => h1 (add_ne e (by decide)), fun e => h2 (add_ne e (by decide)), fun e => h3 (add_ne e (by decide)), fun e => h4 (add_ne e (by decide)), fun e => h5 (add_ne e (by decide)), fun e => h6 (add_ne e (by decide)), fun _ => rfl, fun e => h8 (add_ne e (by decide)), fun e => h9 (add_ne e (by decide)), fun e => h10 (add_ne e (by decide)), fun e => h11 (add_ne e (by decide)), fun e => h13 (add_ne e (by decide)), fun e => h14 (add_ne e (by decide)), fun e => h17 (add_ne e (by decide)), fun e => h18 (add_ne e (by decide)), fun e => h19 (add_ne e (by decide)), fun e => h20 (add_ne e (by decide)), fun e => h21 (add_ne e (by decide)), fun e => h22 (add_ne e (by decide)), fun e => h12 (add_ne e (by decide)), fun e => h15 (add_ne e (by decide)), fun e => h16 (add_ne e (by decide))⟩
                      · -- 8
                        refine wpOp_step rfl fun K hK => ?_
                        go_simp
                        exact hK _ _ ⟨_, _, _, _, _, _, _, _, _, _, _, _, _, _, _, _, _, _, _, _, _, _, _, rfl, hB, fun e => h0 (add_ne e (by decide)), fun e => h1 (add_ne e (by decide)), fun e => h2 (add_ne e (by decide)), fun e => h3 (add_ne e (by decide)), fun e => h4 (add_ne e (by decide)), fun e => h5 (add_ne e (by decide)), fun e => h6 (add_ne e (by decide)), fun e => h7 (add_ne e (by decide)), fun _ => rfl, fun e => h9 (add_ne e (by decide)), fun e => h10 (add_ne e (by decide)), fun e => h11 (add_ne e (by decide)), fun e => h13 (add_ne e (by decide)), fun e => h14 (add_ne e (by decide)), fun e => h17 (add_ne e (by decide)), fun e => h18 (add_ne e (by decide)), fun e => h19 (add_ne e (by decide)), fun e => h20 (add_ne e (by decide)), fun e => h21 (add_ne e (by decide)), fun e => h22 (add_ne e (by decide)), fun e => h12 (add_ne e (by decide)), fun e => h15 (add_ne e (by decide)), fun e => h16 (add_ne e (by decide))⟩
                      · -- 9
                        have e8 := h8 (hdep 8 (by decide +kernel))
                        subst e8
                        have z := (hB.cell (p := ⟨wr.heap.size, 1, none⟩) hbl).trans d1
                        refine wpOp_step rfl fun K hK => ?_
                        go_simp
                        exact hK _ _ ⟨_, _, _, _, _, _, _, _, _, _, _, _, _, _, _, _, _, _, _, _, _, _, _, rfl, hB, fun e => h0 (add_ne e (by decide)), fun e => h1 (add_ne e (by decide)), fun e => h2 (add_ne e (by decide)), fun e => h3 (add_ne e (by decide)), fun e => h4 (add_ne e (by decide)), fun e => h5 (add_ne e (by decide)), fun e => h6 (add_ne e (by decide)), fun e => h7 (add_ne e (by decide)), fun e => h8 (add_ne e (by decide)), fun _ => rfl, fun e => h10 (add_ne e (by decide)), fun e => h11 (add_ne e (by decide)), fun e => h13 (add_ne e (by decide)), fun e => h14 (add_ne e (by decide)), fun e => h17 (add_ne e (by decide)), fun e => h18 (add_ne e (by decide)), fun e => h19 (add_ne e (by decide)), fun e => h20 (add_ne e (by decide)), fun e => h21 (add_ne e (by decide)), fun e => h22 (add_ne e (by decide)), fun e => h12 (add_ne e (by decide)), fun e => h15 (add_ne e (by decide)), fun e => h16 (add_ne e (by decide))⟩
                      · -- 10
                        have e7 := h7 (hdep 7 (by decide +kernel))
                        subst e7
                        have e9 := h9 (hdep 9 (by decide +kernel))
                        subst e9
                        refine wpOp_step rfl fun K hK => ?_
                        go_simp
                        exact hK _ _ ⟨_, _, _, _, _, _, _, _, _, _, _, _, _, _, _, _, _, _, _, _, _, _, _, rfl, hB, fun e => h0 (add_ne e (by decide)), fun e => h1 (add_ne e (by decide)), fun e => h2 (add_ne e (by decide)), fun e => h3 (add_ne e (by decide)), fun e => h4 (add_ne e (by decide)), fun e => h5 (add_ne e (by decide)), fun e => h6 (add_ne e (by decide)), fun e => h7 (add_ne e (by decide)), fun e => h8 (add_ne e (by decide)), fun e => h9 (add_ne e (by decide)), fun _ => rfl, fun e => h11 (add_ne e (by decide)), fun e => h13 (add_ne e (by decide)), fun e => h14 (add_ne e (by decide)), fun e => h17 (add_ne e (by decide)), fun e => h18 (add_ne e (by decide)), fun e => h19 (add_ne e (by decide)), fun e => h20 (add_ne e (by decide)), fun e => h21 (add_ne e (by decide)), fun e => h22 (add_ne e (by decide)), fun e => h12 (add_ne e (by decide)), fun e => h15 (add_ne e (by decide)), fun e => h16 (add_ne e (by decide))⟩
                      · -- 11
                        have e10 := h10 (hdep 10 (by decide +kernel))
                        subst e10
                        have z := (hB.cell (p := ⟨g' m, c, none⟩) l2).trans m2
                        refine wpOp_step rfl fun K hK => ?_
                        go_simp
                        exact hK _ _ ⟨_, _, _, _, _, _, _, _, _, _, _, _, _, _, _, _, _, _, _, _, _, _, _, rfl, hB, fun e => h0 (add_ne e (by decide)), fun e => h1 (add_ne e (by decide)), fun e => h2 (add_ne e (by decide)), fun e => h3 (add_ne e (by decide)), fun e => h4 (add_ne e (by decide)), fun e => h5 (add_ne e (by decide)), fun e => h6 (add_ne e (by decide)), fun e => h7 (add_ne e (by decide)), fun e => h8 (add_ne e (by decide)), fun e => h9 (add_ne e (by decide)), fun e => h10 (add_ne e (by decide)), fun _ => rfl, fun e => h13 (add_ne e (by decide)), fun e => h14 (add_ne e (by decide)), fun e => h17 (add_ne e (by decide)), fun e => h18 (add_ne e (by decide)), fun e => h19 (add_ne e (by decide)), fun e => h20 (add_ne e (by decide)), fun e => h21 (add_ne e (by decide)), fun e => h22 (add_ne e (by decide)), fun e => h12 (add_ne e (by decide)), fun e => h15 (add_ne e (by decide)), fun e => h16 (add_ne e (by decide))⟩
                      · -- 12
                        have e11 := h11 (hdep 11 (by decide +kernel))
                        subst e11
                        have hcall := hofC.out wz
                        refine wpOp_step rfl fun K hK => ?_
                        go_simp
                        go_at_call 38
                        refine hcall.mono ?_
                        rintro e w1 ⟨vv, rfl, hvv, hb1⟩
                        go_simp
                        exact hK _ _ ⟨_, _, _, _, _, _, _, _, _, _, _, _, _, _, _, _, _, _, _, _, _, _, _, rfl, hB.trans (hb1.mono hB.size), fun e => h0 (add_ne e (by decide)), fun e => h1 (add_ne e (by decide)), fun e => h2 (add_ne e (by decide)), fun e => h3 (add_ne e (by decide)), fun e => h4 (add_ne e (by decide)), fun e => h5 (add_ne e (by decide)), fun e => h6 (add_ne e (by decide)), fun e => h7 (add_ne e (by decide)), fun e => h8 (add_ne e (by decide)), fun e => h9 (add_ne e (by decide)), fun e => h10 (add_ne e (by decide)), fun e => h11 (add_ne e (by decide)), fun e => h13 (add_ne e (by decide)), fun e => h14 (add_ne e (by decide)), fun e => h17 (add_ne e (by decide)), fun e => h18 (add_ne e (by decide)), fun e => h19 (add_ne e (by decide)), fun e => h20 (add_ne e (by decide)), fun e => h21 (add_ne e (by decide)), fun e => h22 (add_ne e (by decide)), fun _ => hvv, fun e => (h15 (add_ne e (by decide))).kept hb1, fun e => (h16 (add_ne e (by decide))).kept hb1⟩
                      · -- 13
                        refine wpOp_step rfl fun K hK => ?_
                        go_simp
                        exact hK _ _ ⟨_, _, _, _, _, _, _, _, _, _, _, _, _, _, _, _, _, _, _, _, _, _, _, rfl, hB, fun e => h0 (add_ne e (by decide)), fun e => h1 (add_ne e (by decide)), fun e => h2 (add_ne e (by decide)), fun e => h3 (add_ne e (by decide)), fun e => h4 (add_ne e (by decide)), fun e => h5 (add_ne e (by decide)), fun e => h6 (add_ne e (by decide)), fun e => h7 (add_ne e (by decide)), fun e => h8 (add_ne e (by decide)), fun e => h9 (add_ne e (by decide)), fun e => h10 (add_ne e (by decide)), fun e => h11 (add_ne e (by decide)), fun _ => rfl, fun e => h14 (add_ne e (by decide)), fun e => h17 (add_ne e (by decide)), fun e => h18 (add_ne e (by decide)), fun e => h19 (add_ne e (by decide)), fun e => h20 (add_ne e (by decide)), fun e => h21 (add_ne e (by decide)), fun e => h22 (add_ne e (by decide)), fun e => h12 (add_ne e (by decide)), fun e => h15 (add_ne e (by decide)), fun e => h16 (add_ne e (by decide))⟩
                      · -- 14
                        have e13 := h13 (hdep 13 (by decide +kernel))
                        subst e13
                        have z := (hB.cell (p := ⟨wr.heap.size, 2, none⟩) hbl).trans d2
                        refine wpOp_step rfl fun K hK => ?_
                        go_simp
                        exact hK _ _ ⟨_, _, _, _, _, _, _, _, _, _, _, _, _, _, _, _, _, _, _, _, _, _, _, rfl, hB, fun e => h0 (add_ne e (by decide)), fun e => h1 (add_ne e (by decide)), fun e => h2 (add_ne e (by decide)), fun e => h3 (add_ne e (by decide)), fun e => h4 (add_ne e (by decide)), fun e => h5 (add_ne e (by decide)), fun e => h6 (add_ne e (by decide)), fun e => h7 (add_ne e (by decide)), fun e => h8 (add_ne e (by decide)), fun e => h9 (add_ne e (by decide)), fun e => h10 (add_ne e (by decide)), fun e => h11 (add_ne e (by decide)), fun e => h13 (add_ne e (by decide)), fun _ => rfl, fun e => h17 (add_ne e (by decide)), fun e => h18 (add_ne e (by decide)), fun e => h19 (add_ne e (by decide)), fun e => h20 (add_ne e (by decide)), fun e => h21 (add_ne e (by decide)), fun e => h22 (add_ne e (by decide)), fun e => h12 (add_ne e (by decide)), fun e => h15 (add_ne e (by decide)), fun e => h16 (add_ne e (by decide))⟩
                      · -- 15
                        have e14 := h14 (hdep 14 (by decide +kernel))
                        subst e14
                        have hcall := hofx.out wz
                        refine wpOp_step rfl fun K hK => ?_
                        go_simp
                        go_at_call 38
                        refine hcall.mono ?_
                        rintro e w1 ⟨vv, rfl, hvv, hb1⟩
                        go_simp
                        exact hK _ _ ⟨_, _, _, _, _, _, _, _, _, _, _, _, _, _, _, _, _, _, _, _, _, _, _, rfl, hB.trans (hb1.mono hB.size), fun e => h0 (add_ne e (by decide)), fun e => h1 (add_ne e (by decide)), fun e => h2 (add_ne e (by decide)), fun e => h3 (add_ne e (by decide)), fun e => h4 (add_ne e (by decide)), fun e => h5 (add_ne e (by decide)), fun e => h6 (add_ne e (by decide)), fun e => h7 (add_ne e (by decide)), fun e => h8 (add_ne e (by decide)), fun e => h9 (add_ne e (by decide)), fun e => h10 (add_ne e (by decide)), fun e => h11 (add_ne e (by decide)), fun e => h13 (add_ne e (by decide)), fun e => h14 (add_ne e (by decide)), fun e => h17 (add_ne e (by decide)), fun e => h18 (add_ne e (by decide)), fun e => h19 (add_ne e (by decide)), fun e => h20 (add_ne e (by decide)), fun e => h21 (add_ne e (by decide)), fun e => h22 (add_ne e (by decide)), fun e => (h12 (add_ne e (by decide))).kept hb1, fun _ => hvv, fun e => (h16 (add_ne e (by decide))).kept hb1⟩
                      · -- 16
                        have hcall := addB_any v105 v108 5 (C m c) x wz (h12 (hdep 12 (by decide +kernel))) (h15 (hdep 15 (by decide +kernel))) (by omega)
                        refine wpOp_step rfl fun K hK => ?_
                        go_simp
                        go_at_call 37
                        refine hcall.mono ?_
                        rintro e w1 ⟨vv, rfl, hvv, hb1⟩
                        go_simp
                        exact hK _ _ ⟨_, _, _, _, _, _, _, _, _, _, _, _, _, _, _, _, _, _, _, _, _, _, _, rfl, hB.trans (hb1.mono hB.size), fun e => h0 (add_ne e (by decide)), fun e => h1 (add_ne e (by decide)), fun e => h2 (add_ne e (by decide)), fun e => h3 (add_ne e (by decide)), fun e => h4 (add_ne e (by decide)), fun e => h5 (add_ne e (by decide)), fun e => h6 (add_ne e (by decide)), fun e => h7 (add_ne e (by decide)), fun e => h8 (add_ne e (by decide)), fun e => h9 (add_ne e (by decide)), fun e => h10 (add_ne e (by decide)), fun e => h11 (add_ne e (by decide)), fun e => h13 (add_ne e (by decide)), fun e => h14 (add_ne e (by decide)), fun e => h17 (add_ne e (by decide)), fun e => h18 (add_ne e (by decide)), fun e => h19 (add_ne e (by decide)), fun e => h20 (add_ne e (by decide)), fun e => h21 (add_ne e (by decide)), fun e => h22 (add_ne e (by decide)), fun e => (h12 (add_ne e (by decide))).kept hb1, fun e => (h15 (add_ne e (by decide))).kept hb1, fun _ => hvv⟩
                      · -- 17
                        have hcall := fit_any v109 6 (C m c + x) wz (h16 (hdep 16 (by decide +kernel))) (by omega)
                        refine wpOp_step rfl fun K hK => ?_
                        go_simp
                        go_at_call 36
                        refine hcall.mono ?_
                        rintro e w1 ⟨rfl, hb1⟩
                        go_simp
                        exact hK _ _ ⟨_, _, _, _, _, _, _, _, _, _, _, _, _, _, _, _, _, _, _, _, _, _, _, rfl, hB.trans (hb1.mono hB.size), fun e => h0 (add_ne e (by decide)), fun e => h1 (add_ne e (by decide)), fun e => h2 (add_ne e (by decide)), fun e => h3 (add_ne e (by decide)), fun e => h4 (add_ne e (by decide)), fun e => h5 (add_ne e (by decide)), fun e => h6 (add_ne e (by decide)), fun e => h7 (add_ne e (by decide)), fun e => h8 (add_ne e (by decide)), fun e => h9 (add_ne e (by decide)), fun e => h10 (add_ne e (by decide)), fun e => h11 (add_ne e (by decide)), fun e => h13 (add_ne e (by decide)), fun e => h14 (add_ne e (by decide)), fun _ => rfl, fun e => h18 (add_ne e (by decide)), fun e => h19 (add_ne e (by decide)), fun e => h20 (add_ne e (by decide)), fun e => h21 (add_ne e (by decide)), fun e => h22 (add_ne e (by decide)), fun e => (h12 (add_ne e (by decide))).kept hb1, fun e => (h15 (add_ne e (by decide))).kept hb1, fun e => (h16 (add_ne e (by decide))).kept hb1⟩
                      · -- 18
                        have e17 := h17 (hdep 17 (by decide +kernel))
                        subst e17
                        refine wpOp_step rfl fun K hK => ?_
                        go_simp
                        exact hK _ _ ⟨_, _, _, _, _, _, _, _, _, _, _, _, _, _, _, _, _, _, _, _, _, _, _, rfl, hB, fun e => h0 (add_ne e (by decide)), fun e => h1 (add_ne e (by decide)), fun e => h2 (add_ne e (by decide)), fun e => h3 (add_ne e (by decide)), fun e => h4 (add_ne e (by decide)), fun e => h5 (add_ne e (by decide)), fun e => h6 (add_ne e (by decide)), fun e => h7 (add_ne e (by decide)), fun e => h8 (add_ne e (by decide)), fun e => h9 (add_ne e (by decide)), fun e => h10 (add_ne e (by decide)), fun e => h11 (add_ne e (by decide)), fun e => h13 (add_ne e (by decide)), fun e => h14 (add_ne e (by decide)), fun e => h17 (add_ne e (by decide)), fun _ => rfl, fun e => h19 (add_ne e (by decide)), fun e => h20 (add_ne e (by decide)), fun e => h21 (add_ne e (by decide)), fun e => h22 (add_ne e (by decide)), fun e => h12 (add_ne e (by decide)), fun e => h15 (add_ne e (by decide)), fun e => h16 (add_ne e (by decide))⟩
                      · -- 19
                        have e18 := h18 (hdep 18 (by decide +kernel))
                        subst e18
                        refine wpOp_step rfl fun K hK => ?_
                        go_simp
                        exact hK _ _ ⟨_, _, _, _, _, _, _, _, _, _, _, _, _, _, _, _, _, _, _, _, _, _, _, rfl, hB, fun e => h0 (add_ne e (by decide)), fun e => h1 (add_ne e (by decide)), fun e => h2 (add_ne e (by decide)), fun e => h3 (add_ne e (by decide)), fun e => h4 (add_ne e (by decide)), fun e => h5 (add_ne e (by decide)), fun e => h6 (add_ne e (by decide)), fun e => h7 (add_ne e (by decide)), fun e => h8 (add_ne e (by decide)), fun e => h9 (add_ne e (by decide)), fun e => h10 (add_ne e (by decide)), fun e => h11 (add_ne e (by decide)), fun e => h13 (add_ne e (by decide)), fun e => h14 (add_ne e (by decide)), fun e => h17 (add_ne e (by decide)), fun e => h18 (add_ne e (by decide)), fun _ => rfl, fun e => h20 (add_ne e (by decide)), fun e => h21 (add_ne e (by decide)), fun e => h22 (add_ne e (by decide)), fun e => h12 (add_ne e (by decide)), fun e => h15 (add_ne e (by decide)), fun e => h16 (add_ne e (by decide))⟩
                      · -- 20
                        have e18 := h18 (hdep 18 (by decide +kernel))
                        subst e18
                        refine wpOp_step rfl fun K hK => ?_
                        go_simp
                        exact hK _ _ ⟨_, _, _, _, _, _, _, _, _, _, _, _, _, _, _, _, _, _, _, _, _, _, _, rfl, hB, fun e => h0 (add_ne e (by decide)), fun e => h1 (add_ne e (by decide)), fun e => h2 (add_ne e (by decide)), fun e => h3 (add_ne e (by decide)), fun e => h4 (add_ne e (by decide)), fun e => h5 (add_ne e (by decide)), fun e => h6 (add_ne e (by decide)), fun e => h7 (add_ne e (by decide)), fun e => h8 (add_ne e (by decide)), fun e => h9 (add_ne e (by decide)), fun e => h10 (add_ne e (by decide)), fun e => h11 (add_ne e (by decide)), fun e => h13 (add_ne e (by decide)), fun e => h14 (add_ne e (by decide)), fun e => h17 (add_ne e (by decide)), fun e => h18 (add_ne e (by decide)), fun e => h19 (add_ne e (by decide)), fun _ => rfl, fun e => h21 (add_ne e (by decide)), fun e => h22 (add_ne e (by decide)), fun e => h12 (add_ne e (by decide)), fun e => h15 (add_ne e (by decide)), fun e => h16 (add_ne e (by decide))⟩
                      · -- 21
                        have e19 := h19 (hdep 19 (by decide +kernel))
                        subst e19
                        refine wpOp_step rfl fun K hK => ?_
                        go_simp
                        exact hK _ _ ⟨_, _, _, _, _, _, _, _, _, _, _, _, _, _, _, _, _, _, _, _, _, _, _, rfl, hB, fun e => h0 (add_ne e (by decide)), fun e => h1 (add_ne e (by decide)), fun e => h2 (add_ne e (by decide)), fun e => h3 (add_ne e (by decide)), fun e => h4 (add_ne e (by decide)), fun e => h5 (add_ne e (by decide)), fun e => h6 (add_ne e (by decide)), fun e => h7 (add_ne e (by decide)), fun e => h8 (add_ne e (by decide)), fun e => h9 (add_ne e (by decide)), fun e => h10 (add_ne e (by decide)), fun e => h11 (add_ne e (by decide)), fun e => h13 (add_ne e (by decide)), fun e => h14 (add_ne e (by decide)), fun e => h17 (add_ne e (by decide)), fun e => h18 (add_ne e (by decide)), fun e => h19 (add_ne e (by decide)), fun e => h20 (add_ne e (by decide)), fun _ => rfl, fun e => h22 (add_ne e (by decide)), fun e => h12 (add_ne e (by decide)), fun e => h15 (add_ne e (by decide)), fun e => h16 (add_ne e (by decide))⟩
                      · -- 22
                        have e20 := h20 (hdep 20 (by decide +kernel))
                        subst e20
                        refine wpOp_step rfl fun K hK => ?_
                        go_simp
                        exact hK _ _ ⟨_, _, _, _, _, _, _, _, _, _, _, _, _, _, _, _, _, _, _, _, _, _, _, rfl, hB, fun e => h0 (add_ne e (by decide)), fun e => h1 (add_ne e (by decide)), fun e => h2 (add_ne e (by decide)), fun e => h3 (add_ne e (by decide)), fun e => h4 (add_ne e (by decide)), fun e => h5 (add_ne e (by decide)), fun e => h6 (add_ne e (by decide)), fun e => h7 (add_ne e (by decide)), fun e => h8 (add_ne e (by decide)), fun e => h9 (add_ne e (by decide)), fun e => h10 (add_ne e (by decide)), fun e => h11 (add_ne e (by decide)), fun e => h13 (add_ne e (by decide)), fun e => h14 (add_ne e (by decide)), fun e => h17 (add_ne e (by decide)), fun e => h18 (add_ne e (by decide)), fun e => h19 (add_ne e (by decide)), fun e => h20 (add_ne e (by decide)), fun e => h21 (add_ne e (by decide)), fun _ => rfl, fun e => h12 (add_ne e (by decide)), fun e => h15 (add_ne e (by decide)), fun e => h16 (add_ne e (by decide))⟩
                    · intro L az wz hI hL
                      obtain ⟨v12, v13, v92, v93, v94, v95, v96, v97, v98, v99, v100, v101, v102, v103, v104, v105, v106, v107, v108, v109, v110, v111, v112, rfl, hB, h0, h1, h2, h3, h4, h5, h6, h7, h8, h9, h10, h11, h13, h14, h17, h18, h19, h20, h21, h22, h12, h15, h16⟩ := hI
                      have e21 := h21 (hL 21 (by decide))
                      have e22 := h22 (hL 22 (by decide))
                      refine hK1 _ _ (Met.intro (hJ1 _ _ ?_))
                      (repeat apply Exists.intro)
                      refine ⟨?rel, rfl⟩
                      case rel => exact ⟨e21, e22, hB⟩
                  case rest =>
                    obtain ⟨rfl, rfl, hBc⟩ := hcut
                    have hLc := hL1.out.below hBc.out
                    have hBw : Below w.heap.size w wc := hB1.out.trans (hBc.out.mono hB1.out.size)
                    have hbxc := (hBc.out.block _ hbl).trans hbx.out
                    have d0c : wc.cell? ⟨wr.heap.size, 0, none⟩ = some (.int .i64 (m : Int)) := obj_cell hbxc rfl
                    have d1c : wc.cell? ⟨wr.heap.size, 1, none⟩ = some (.int .i64 (c : Int)) := obj_cell hbxc rfl
                    have m0c := hLc.c0
                    have m1c := hLc.row hm
                    have m2c := (hLc.bal m hm).cell hc
                    dsimp only at m0c m1c m2c
                    have zf := (hLc.bal m hm).free c
                    clear d0 d1 d2 m0 m1 m2
                    by_cases hI : In64 (C m c + x)
                    · have eV : fitRV (C m c + x) = C m c + x := if_pos hI
                      have eE : fitRE (C m c + x) = 0 := if_pos hI
                      rw [eV, eE]
                      generalize hyv : C m c + x = y at *
                      have hS2 : RT w l ps b' (k + 1) (upd2 C m c y) gB' cB' gN' cN' g' cp' ((wc.setCell ⟨g' m, c, none⟩ (.int .i64 y)).drew) := by
                        refine ⟨(hLc.setB hm hc y).drewN 1, ?_, fun a d => ?_, (hBw.setCell (by have := hLc.own.2.2.2 m hm; exact this) _).drew⟩
                        · have := hstep.out; rw [if_pos hI] at this; exact this.symm
                        · unfold upd2
                          split
                          · exact hI
                          · exact hTt.out.ic a d
                      replace hS2 := Lib.hid hS2
                      replace hLc := Lib.hid hLc
                      replace hBw := Lib.hid hBw
                      replace hI := Lib.hid hI
                      replace hyv := Lib.hid hyv
                      replace hbxc := Lib.hid hbxc
                      go_upto_region 24 with (fail)
                      go_still_tail 12, (by kernel_rfl)
                      change wpList _ _ _ _ _ (World.drew _)
                      go_wp2_with fail
                      go_roundw
                      case rel => exact ⟨k + 1, _, by omega, by go_num, hS2⟩
                      case measure => simp [intOf]; omega
                    · have eE : fitRE (C m c + x) = 3 := if_neg hI
                      rw [eE]
                      have hfin : RDid P b (l.post ps) w (.returned (.int .i64 3)) wc := by
                        have e : l.post ps = (3, l) := post_over hkn.out hev.out (by have := hstep.out; rw [if_neg hI] at this; exact this)
                        exact ⟨by rw [e], by rw [e]; exact RL.of (h.out.below hBw), Kp.of_below hBw⟩
                      replace hfin := Lib.hid hfin
                      replace hLc := Lib.hid hLc
                      replace hBw := Lib.hid hBw
                      replace hI := Lib.hid hI
                      replace hbxc := Lib.hid hbxc
                      go_wp2_with fail
                      go_ret
                      exact hfin.out
                · obtain rfl : k = j := by omega
                  have hkz3 : ¬ (k : Int) < (k : Int) := by omega
                  have hgo := hTt.go
                  rw [List.drop_of_length_le (by omega)] at hgo
                  have hLb := h.out.below hTt.blw
                  have c0' := hTt.led.c0
                  have c0b := hLb.c0
                  have zb := obj_free hLb.obj
                  have hfin : RDid P b (l.post ps) w (.returned (.int .i64 0)) (wr.setCell ⟨b, 0, none⟩ (.slice (some ⟨gB', 0, none⟩) l.nm cB')) := by
                    have e : l.post ps = (0, ⟨l.nm, l.nc, C, l.N⟩) := post_done hkn.out hev.out (by rw [← hgo]; rfl)
                    rw [e]
                    obtain ⟨rs, r1, r2⟩ := hTt.led.rows
                    obtain ⟨ns, n1, n2⟩ := hLb.nos
                    refine ⟨rfl, ⟨gB', cB', gN, cN, g', cp', obj_set hLb.obj 0 _, ⟨rs, (obj_other _ (ty_ne r1 hLb.obj (by decide))).trans r1, r2⟩, ⟨ns, (obj_other _ (ty_ne n1 hLb.obj (by decide))).trans n1, n2⟩, fun m hm => ?_, fun m hm => ⟨?_, (hTt.led.apart m hm).2⟩, hLb.own.1, hP.out _ hTt.led.own.2.1, hLb.own.2.2.1, fun m hm => hP.out _ (hTt.led.own.2.2.2 m hm)⟩, (Kp.of_below hTt.blw).setCell (.inl hLb.own.1) _⟩
                    · obtain ⟨bs, b1, b2⟩ := hTt.led.bal m hm
                      exact ⟨bs, (obj_other _ (ty_ne b1 hLb.obj (by decide))).trans b1, b2⟩
                    · have h1 := hTt.led.own.2.2.2 m hm
                      have h2 := h.out.nos.lt
                      omega
                  dsimp only at c0'
                  replace hfin := Lib.hid hfin
                  replace hLb := Lib.hid hLb
                  replace hTt := Lib.hid hTt
                  replace hgo := Lib.hid hgo
                  go_wp2_with fail
                  go_ret
                  exact hfin.out
end Go.Proofs.Ytllhpdohahoelaa
