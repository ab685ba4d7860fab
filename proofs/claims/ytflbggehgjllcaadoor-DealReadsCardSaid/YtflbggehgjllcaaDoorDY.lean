/- A book beside what stays: what its calls do. -/
import Derived.Test.YtflbggehgjllcaaDoorDX
import Derived.Test.YtflbggehgjllcaaDoorDK
namespace Go.Proofs.YtflbggehgjllcaaDoor
open Go.RowKit
set_option linter.unusedVariables false

/-- a book, beside G's blocks, which stay -/
structure BS (G : Nat → Prop) (gb : Nat) (b : Bk) (w : World) : Prop where
  pb : PB (fun j => ¬ G j) w gb b
  lt : ∀ j, G j → j < w.heap.size
  ok : b.Ok
section
variable {G G' : Nat → Prop} {gb : Nat} {b : Bk} {w w' : World}
theorem BS.below (h : BS G gb b w) (hb : Below w.heap.size w w') : BS G gb b w' := ⟨below_pb h.pb hb, fun j hj => Nat.lt_of_lt_of_le (h.lt j hj) hb.size, h.ok⟩
/-- more stays: what has been made since -/
theorem BS.more (h : BS G gb b w) (hb : Below w.heap.size w w') (hG : ∀ j, j < w.heap.size → G' j → G j) (hl : ∀ j, G' j → j < w'.heap.size) : BS G' gb b w' :=
  ⟨below_pb ((PB.live gb b).weak h.pb fun j hj hn hg => hn (hG j hj hg)) hb, hl, h.ok⟩
theorem BS.done {P : Nat → Prop} {b' : Bk} (h : BS G gb b w) (hp : PB (fun j => ¬ G j) w' gb b') (hK : Kp (fun j => ¬ G j) w w') (ho : b'.Ok) : BS G gb b' w' := ⟨hp, fun j hj => Nat.lt_of_lt_of_le (h.lt j hj) hK.size, ho⟩
theorem BS.fresh (h : BS G gb b w) : ∀ i, w.heap.size ≤ i → ¬ G i := fun i hi hg => by have := h.lt i hg; omega
/-- a write to what stays -/
theorem BS.kp {F : Nat → Prop} (h : BS G gb b w) (hK : Kp F w w') (hF : ∀ j, F j → G j) : BS G gb b w' :=
  ⟨(PB.live gb b).kept h.pb hK fun j _ hp hf => hp (hF j hf), fun j hj => Nat.lt_of_lt_of_le (h.lt j hj) hK.size, h.ok⟩
theorem BS.sub (h : BS G gb b w) (d : Dl) (hd : d.In) : Calls Tryd.prog 18 #[.pointer (some ⟨gb, 0, none⟩), d.val] w fun e w' => e = .returned (.tuple #[.bool (b.sub d).1.1, .int .i64 (b.sub d).1.2]) ∧ BS G gb (b.sub d).2 w' ∧ Kp (fun j => ¬ G j) w w' :=
  (submit_any h.pb d hd.id h.ok.len (by have := h.ok.many.2; omega) h.fresh).mono fun e w' ⟨h1, h2, h3⟩ => ⟨h1, h.done (P := G) h2 h3 (sub_ok h.ok d hd), h3⟩
theorem BS.res (h : BS G gb b w) (m id : Int) (hid : In64 id) : Calls Tryd.prog 20 #[.pointer (some ⟨gb, 0, none⟩), .int .i64 m, .int .i64 id] w fun e w' => e = .returned (.tuple #[.int .i64 (b.res m id).1.1, .int .i64 (b.res m id).1.2]) ∧ BS G gb (b.res m id).2 w' ∧ Kp (fun j => ¬ G j) w w' :=
  (rescind_any h.pb m hid (by have := h.ok.len; omega) fun e he => ⟨(h.ok.may e he).2.2.2.1, En.may_ask (h.ok.may e he).2.2.1⟩).mono fun e w' ⟨h1, h2, h3⟩ => ⟨h1, h.done (P := G) h2 h3 (res_ok h.ok m id), h3⟩
theorem BS.set (h : BS G gb b w) (id : Int) (hid : In64 id) : Calls Tryd.prog 21 #[.pointer (some ⟨gb, 0, none⟩), .int .i64 id] w fun e w' => e = .returned (.int .i64 (b.set id).1) ∧ BS G gb (b.set id).2 w' ∧ Kp (fun j => ¬ G j) w w' :=
  (settle_any h.pb hid (by have := h.ok.len; omega)).mono fun e w' ⟨h1, h2, h3⟩ => ⟨h1, h.done (P := G) h2 h3 (set_ok h.ok id), h3⟩
theorem BS.state (h : BS G gb b w) (id : Int) (hid : In64 id) : Calls Tryd.prog 19 #[.pointer (some ⟨gb, 0, none⟩), .int .i64 id] w fun e w' => e = .returned (.int .i64 (b.state id)) ∧ w = w' :=
  state_any h.pb hid (by have := h.ok.len; omega)
theorem BS.deal (h : BS G gb b w) (id : Int) (hid : In64 id) : Calls Tryd.prog 22 #[.pointer (some ⟨gb, 0, none⟩), .int .i64 id] w fun e w' => e = .returned (.tuple #[(b.deal id).1.val, .bool (b.deal id).2]) ∧ Below w.heap.size w w' :=
  deal_any h.pb hid (by have := h.ok.len; omega)
theorem BS.all (h : BS G gb b w) (st : Int) : Calls Tryd.prog 14 #[.pointer (some ⟨gb, 0, none⟩), .int .i64 st] w fun e w' => ∃ u, e = .returned u ∧ ZR w w' u (b.all st) :=
  all_any h.pb st (by have := h.ok.len; omega) fun e => by subst e; exact h.ok.nodup2
theorem BS.text (h : BS G gb b w) (hZ : SZ w) : Calls Tryd.prog 11 #[.pointer (some ⟨gb, 0, none⟩)] w fun e w' => e = .returned (sv b.text) ∧ Below w.heap.size w w' :=
  text_any h.pb (by have := h.ok.len; omega) hZ
theorem BS.rem (h : BS G gb b w) (m : Int) : Calls Tryd.prog 23 #[.pointer (some ⟨gb, 0, none⟩), .int .i64 m] w fun e w' => ∃ u, e = .returned u ∧ IRow w' u (b.rem m).1 ∧ (∀ g, u.ownBlock = some g → w.heap.size ≤ g) ∧ BS G gb (b.rem m).2 w' ∧ Kp (fun j => ¬ G j) w w' :=
  (remove_any h.pb m (by have := h.ok.len; omega) h.fresh).mono fun e w' ⟨u, h1, h2, h3, h4, h5⟩ => ⟨u, h1, h2, h3, h.done (P := G) h4 h5 (rem_ok h.ok m), h5⟩
end
/-- a new book -/
theorem BS.made (G : Nat → Prop) (mem cur : Int) (w : World) (hG : ∀ j, G j → j < w.heap.size) (h : newR mem cur = true) : Calls Tryd.prog 8 #[.int .i64 mem, .int .i64 cur] w fun e w' => ∃ gb, e = .returned (.tuple #[.pointer (some ⟨gb, 0, none⟩), .int .i64 0]) ∧ BS G gb ⟨mem, cur, [], 0⟩ w' ∧ Below w.heap.size w w' ∧ w.heap.size ≤ gb :=
  (new_yes (fun j => ¬ G j) mem cur w h fun i hi hg => by have := hG i hg; omega).mono fun e w' ⟨gb, h1, h2, h3, h4⟩ => ⟨gb, h1, ⟨h2, fun j hj => Nat.lt_of_lt_of_le (hG j hj) h3.size, by
    unfold newR at h
    have h' := of_decide_eq_true h
    exact new_ok ⟨h'.1, h'.2.1⟩ ⟨h'.2.2.1, h'.2.2.2⟩⟩, h3, h4⟩
/-- a book that was read -/
theorem readB_ok_len {b : Bk} (h : b.Ok) : b.text.length ≤ 100000 := by rw [text_length]; have := h.len; omega
theorem BS.reads (G : Nat → Prop) {b : Bk} (hb : b.Ok) (w : World) (hG : ∀ j, G j → j < w.heap.size) (hZ : SZ w) : Calls Tryd.prog 16 #[sv b.text, .int .i64 b.mem, .int .i64 b.cur] w fun e w' => ∃ gb, e = .returned (.tuple #[.pointer (some ⟨gb, 0, none⟩), .int .i64 0]) ∧ BS G gb b w' ∧ Below w.heap.size w w' ∧ w.heap.size ≤ gb := by
  have hl := readB_ok_len hb
  have hbl : bl ⟨b.text.toArray⟩ = b.text := rfl
  have hsz : (⟨b.text.toArray⟩ : ByteArray).size ≤ 100000 := by rw [← bl_length, hbl]; exact hl
  refine (read_any ⟨b.text.toArray⟩ b.mem b.cur w hZ hsz).mono ?_
  intro e w' h
  rw [hbl, readB_text hb] at h
  obtain ⟨gb, h1, h2, h3⟩ := h.yes b rfl
  exact ⟨gb, h1, ⟨(PB.live gb b).weak h2 fun j _ hj hg => (by have := hG j hg; omega), fun j hj => Nat.lt_of_lt_of_le (hG j hj) h.bl.size, hb⟩, h.bl, h3⟩
end Go.Proofs.YtflbggehgjllcaaDoor
