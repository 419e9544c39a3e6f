/-
  A cell in memory: its block, and the row of its binds.
-/
import Derived.Deep.AppendLies
import Derived.Deep.DeepCutAuto
import Derived.Deep.QuietTactic
import Derived.Test.YtbbogkmibiealaaMix
import Derived.Laws.OwnMore
import Derived.Test.YtbbogkmibiealaaCapp
import Derived.Test.YtbbogkmibiealaaChold
namespace Go.Proofs.Ytbbogkmibiealaa
open Go.RowKit Gm

/-- BLOCK p IS THE CELL D, laid as f says; v: its row of binds. -/
structure CelAt (f : Ce → Value → Array Value) (t : TypeId) (w : World) (p : Nat) (v : Value) (D : Ce) : Prop where
  blk : w.heap[p]? = some (.cells (f D v) t (0, 0))
  row : w.ownsRow 0 35 3 v D.l.length (bdsV D.l)
def CelK (f : Ce → Value → Array Value) (t : TypeId) : Kind Ce := fun w p D R => ∃ v, (∀ b, R b ↔ (b = p ∨ v.ownBlock = some b)) ∧ CelAt f t w p v D
section
variable {f : Ce → Value → Array Value} {t : TypeId} {w w' : World} {p : Nat} {v v' : Value} {D D' : Ce} {R : Nat → Prop}
theorem CelAt.keep (h : CelAt f t w p v D) (hb : ∀ b, (b = p ∨ v.ownBlock = some b) → w'.heap[b]? = w.heap[b]?) : CelAt f t w' p v D :=
  ⟨(hb p (.inl rfl)).trans h.blk, row_moved h.row fun b e => hb b (.inr e)⟩
theorem CelAt.lt (h : CelAt f t w p v D) : p < w.heap.size ∧ ∀ b, v.ownBlock = some b → b < w.heap.size :=
  ⟨(Array.getElem?_eq_some_iff.1 h.blk).1, fun b e => (h.row.lt b e).2⟩
theorem CelAt.below (h : CelAt f t w p v D) (hb : Below w.heap.size w w') : CelAt f t w' p v D := h.keep fun b e => hb.block b (by
  rcases e with rfl | e
  · exact h.lt.1
  · exact h.lt.2 b e)
theorem CelAt.ne (ht : t ≠ 35) (h : CelAt f t w p v D) : v.ownBlock ≠ some p := by
  intro e
  obtain ⟨cs, hc⟩ := row_blk h.row e
  rw [h.blk] at hc; injection hc with hc; injection hc with _ hx; exact ht hx
theorem cel_law (f : Ce → Value → Array Value) (t : TypeId) : Lawful (CelK f t) where
  lt := fun ⟨v, hR, h⟩ b hb => by
    rcases (hR b).1 hb with rfl | e
    · exact h.lt.1
    · exact h.lt.2 b e
  keep := fun ⟨v, hR, h⟩ _ hb => ⟨v, hR, h.keep fun b e => hb b ((hR b).2 e)⟩
theorem CelAt.form (h : CelAt f t w p v D) : ∃ a cap, v = .slice a D.l.length cap := row_form h.row
/-- The cell's binds, as they lie. -/
theorem CelAt.binds (h : CelAt f t w p v D) : ∃ a cap, v = .slice a D.l.length cap ∧ BindsAt w (fun b => v.ownBlock = some b) a D.l.length D.l := by
  obtain ⟨a, cap, h1, _, h2⟩ := binds_own h.row
  exact ⟨a, cap, h1, h2⟩
theorem cel_turn (hR : ∀ b, R b ↔ (b = p ∨ v.ownBlock = some b)) (h' : CelAt f t w' p v' D') (hb : Beside R w w') (hv : ∀ b, v'.ownBlock = some b → v.ownBlock = some b ∨ w.heap.size ≤ b) : Turn (CelK f t) w w' p D' R :=
  ⟨fun b => b = p ∨ v'.ownBlock = some b, ⟨v', fun _ => Iff.rfl, h'⟩, hb, fun b e => by
    rcases e with e | e
    · exact .inl ((hR b).2 (.inl e))
    · rcases hv b e with e | e
      · exact .inl ((hR b).2 (.inr e))
      · exact .inr e⟩
theorem cel_same (h : CelK f t w p D R) (hb : Below w.heap.size w w') : Turn (CelK f t) w w' p D R := by
  obtain ⟨v, hR, hq⟩ := h
  exact ⟨R, ⟨v, hR, hq.below hb⟩, Beside.of_below hb, fun b h => .inl h⟩
/-- The numbers are written anew; the binds stay. -/
theorem cel_nums (ht : t ≠ 35) (hR : ∀ b, R b ↔ (b = p ∨ v.ownBlock = some b)) (h : CelAt f t w p v D) (hb : Below w.heap.size w w') (hl : D'.l = D.l) {w2 : World} (hw : ∀ b, b ≠ p → w2.heap[b]? = w'.heap[b]?) (hs : w2.heap.size = w'.heap.size) (ho : w2.os = w'.os ∧ w2.tape = w'.tape ∧ w2.output = w'.output) (hp : w2.heap[p]? = some (.cells (f D' v) t (0, 0))) : Turn (CelK f t) w w2 p D' R := by
  have h1 := h.below hb
  refine cel_turn hR ⟨hp, by rw [hl]; exact row_moved h1.row fun b e => hw b fun e' => h1.ne ht (by rw [← e', e])⟩ ((Beside.of_below hb).trans (Q := fun b => b = p) ⟨ho.1, ho.2.1, ho.2.2, by omega, fun b _ hn => hw b hn⟩ fun b e _ => e ▸ (hR p).2 (.inl rfl)) fun b e => .inl e
/-- Numbers and binds are written anew. -/
theorem cel_all (_ht : t ≠ 35) (hR : ∀ b, R b ↔ (b = p ∨ v.ownBlock = some b)) (h : CelAt f t w p v D) (hb : Below w.heap.size w w') (hr : w'.ownsRow w.heap.size 35 3 v' D'.l.length (bdsV D'.l)) {w2 : World} (hw : ∀ b, b ≠ p → w2.heap[b]? = w'.heap[b]?) (hs : w2.heap.size = w'.heap.size) (ho : w2.os = w'.os ∧ w2.tape = w'.tape ∧ w2.output = w'.output) (hp : w2.heap[p]? = some (.cells (f D' v') t (0, 0))) : Turn (CelK f t) w w2 p D' R := by
  have hpl := h.lt.1
  refine cel_turn hR ⟨hp, row_moved (own_low hr (Nat.zero_le _)) fun b e => hw b fun e' => by have := (hr.lt b e).1; omega⟩ ((Beside.of_below hb).trans (Q := fun b => b = p) ⟨ho.1, ho.2.1, ho.2.2, by omega, fun b _ hn => hw b hn⟩ fun b e _ => e ▸ (hR p).2 (.inl rfl)) fun b e => .inr (hr.lt b e).1
end
/-- A block of six cells. -/
theorem six_cells {W : World} {p : Nat} {t : TypeId} {x0 x1 x2 x3 x4 x5 : Value} (h : W.heap[p]? = some (.cells #[x0, x1, x2, x3, x4, x5] t (0, 0))) :
    W.cell? ⟨p, 0, none⟩ = some x0 ∧ W.cell? ⟨p, 1, none⟩ = some x1 ∧ W.cell? ⟨p, 2, none⟩ = some x2 ∧ W.cell? ⟨p, 3, none⟩ = some x3 ∧ W.cell? ⟨p, 4, none⟩ = some x4 ∧ W.cell? ⟨p, 5, none⟩ = some x5 ∧ (∀ i, W.frozen? ⟨p, i, none⟩ = false) ∧ p < W.heap.size :=
  ⟨cell_of_row _ _ _ _ _ _ h, cell_of_row _ _ _ _ _ _ h, cell_of_row _ _ _ _ _ _ h, cell_of_row _ _ _ _ _ _ h, cell_of_row _ _ _ _ _ _ h, cell_of_row _ _ _ _ _ _ h, fun i => by simp [World.frozen?, h], (Array.getElem?_eq_some_iff.1 h).1⟩

abbrev cellsQ (D : Ce) (v : Value) : Array Value := #[.int .i64 D.n, .int .i64 D.boot, .int .i64 D.epoch, .int .i64 D.ver, .int .i64 D.unt, v]
/-- The document's cell. -/
def QCell : Kind Ce := CelK cellsQ 53
theorem qcell_law : Lawful QCell := cel_law _ _
theorem tq_ne : (53 : TypeId) ≠ 35 := by decide
theorem qnew_any (n boot : Int) (w : World) : Calls Try.prog 10 #[.int .i64 n, .int .i64 boot] w fun e w' => ∃ p R, e = .returned (.pointer (some ⟨p, 0, none⟩)) ∧ QCell w' p (newC n boot) R ∧ (∀ b, R b → w.heap.size ≤ b) ∧ Below w.heap.size w w' := by
  go_enter Try.func10, Try.ntmps10
  go_wp2
  go_ret
  exact ⟨w.heap.size, fun b => b = w.heap.size ∨ (Value.slice none 0 0).ownBlock = some b, rfl, ⟨_, fun _ => Iff.rfl, new_at _ _, World.ownsRow_nil _ _ _ _⟩, fun b e => by
    rcases e with e | e
    · omega
    · simp [Value.ownBlock] at e, (Below.refl _ w).alloc (Nat.le_refl _) _⟩
theorem qrun_any (p : Nat) (D : Ce) (R : Nat → Prop) (now : Int) (w : World) (h : QCell w p D R) (ok : OkC D) (hn : I64 now) :
    Calls Try.prog 18 #[.pointer (some ⟨p, 0, none⟩), .int .i64 now] w fun e w' => ∃ a cap, e = .returned (.slice a (runC D now).length cap) ∧ w'.ownsRow w.heap.size 35 3 (.slice a (runC D now).length cap) (runC D now).length (bdsV (runC D now)) ∧ Below w.heap.size w w' := by
  obtain ⟨v, _, h⟩ := h
  obtain ⟨a, cap, rfl, hb⟩ := h.binds
  obtain ⟨c0, c1, c2, c3, c4, c5, _, hpl⟩ := six_cells h.blk
  have HB := Lib.hid hb
  obtain ⟨u, hu⟩ : ∃ u, D.unt = u := ⟨_, rfl⟩
  obtain ⟨n, hl⟩ : ∃ n, D.l.length = n := ⟨_, rfl⟩
  have hn64 : n ≤ 64 := by rw [← hl]; exact ok.few.1
  have hu64 : I64 u := by rw [← hu]; exact ok.nums.2.2.2.2
  obtain ⟨x, hx⟩ : ∃ x, holdsN now u = x := ⟨_, rfl⟩
  have HH : Hid (∀ W, Calls Try.prog 27 #[.int .i64 now, .int .i64 u] W fun e w' => e = .returned (.bool x) ∧ W = w') := Lib.hid fun W => by rw [← hx]; exact qholds_any now u W hn hu64
  have HR : Hid (runC D now = if x = true then D.l else []) := Lib.hid (by unfold runC; rw [hu, hx])
  rw [hu] at c4
  rw [hl] at c5 HB
  have HL := Lib.hid hl
  clear h hb hu hl ok hn hx c0 c1 c2 c3
  rcases x with _ | _
  · rw [HR.out, if_neg (by decide)]
    clear HR
    go_enter Try.func18, Try.ntmps18
    go_wp2_with (go_at_call 27; (with_reducible refine (HH.out _).mono ?_); rintro e w1 ⟨rfl, rfl⟩)
    go_ret
    exact ⟨none, 0, rfl, World.ownsRow_nil _ _ _ _, Below.refl _ _⟩
  · rw [HR.out, if_pos rfl]
    clear HR
    obtain ⟨v', w', hr1, hr2, hr3⟩ := append_binds (cap := cap) HB.out (by omega)
    have HAP := Lib.hid hr1
    have HR2 := Lib.hid hr2
    have HR3 := Lib.hid (gb_none hr3)
    clear hr1 hr2 hr3
    go_enter Try.func18, Try.ntmps18
    go_wp2_with (first
      | (go_at_call 27; (with_reducible refine (HH.out _).mono ?_); rintro e w1 ⟨rfl, rfl⟩)
      | (at_builtin; refine wpList_append_any rfl _ _ _ _ rfl _ _ _ _ rfl rfl HAP.out ?_))
    go_ret
    obtain ⟨a', c', hv'⟩ := row_form HR2.out
    subst hv'
    exact ⟨a', c', rfl, HR2.out, HR3.out⟩
/-- What a call hands back as a message of its own. -/
theorem msg_set {W : World} {g : Nat} {cs : Array Value} {k c b e v u : Int} {a : Option Addr} {n cap : Nat} (h : W.heap[g]? = some (.cells cs 31 (0, 0))) (hs : cs.size = 7) : (((((((W.setCell ⟨g, 0, none⟩ (.int .i64 k)).setCell ⟨g, 1, none⟩ (.int .i64 c)).setCell ⟨g, 2, none⟩ (.int .i64 b)).setCell ⟨g, 3, none⟩ (.int .i64 e)).setCell ⟨g, 4, none⟩ (.int .i64 v)).setCell ⟨g, 5, none⟩ (.int .i64 u)).setCell ⟨g, 6, none⟩ (.slice a n cap)).heap[g]? = some (msgO k c b e v u a n cap) := by
  match cs, hs with
  | ⟨[x0, x1, x2, x3, x4, x5, x6]⟩, _ => simp [World.setCell, Array.getElem?_modify, h]
theorem seven_set {n : Nat} {w W : World} {g : Nat} (hb : Below n w W) (hg : n ≤ g) (x0 x1 x2 x3 x4 x5 x6 : Value) : Below n w (((((((W.setCell ⟨g, 0, none⟩ x0).setCell ⟨g, 1, none⟩ x1).setCell ⟨g, 2, none⟩ x2).setCell ⟨g, 3, none⟩ x3).setCell ⟨g, 4, none⟩ x4).setCell ⟨g, 5, none⟩ x5).setCell ⟨g, 6, none⟩ x6) :=
  ((((((hb.setCell hg x0).setCell hg x1).setCell hg x2).setCell hg x3).setCell hg x4).setCell hg x5).setCell hg x6
theorem seven_far (W : World) (g b : Nat) (hn : b ≠ g) (x0 x1 x2 x3 x4 x5 x6 : Value) : (((((((W.setCell ⟨g, 0, none⟩ x0).setCell ⟨g, 1, none⟩ x1).setCell ⟨g, 2, none⟩ x2).setCell ⟨g, 3, none⟩ x3).setCell ⟨g, 4, none⟩ x4).setCell ⟨g, 5, none⟩ x5).setCell ⟨g, 6, none⟩ x6).heap[b]? = W.heap[b]? := by
  rw [Below.heap_setCell _ _ _ b hn, Below.heap_setCell _ _ _ b hn, Below.heap_setCell _ _ _ b hn, Below.heap_setCell _ _ _ b hn, Below.heap_setCell _ _ _ b hn, Below.heap_setCell _ _ _ b hn, Below.heap_setCell _ _ _ b hn]
set_option maxRecDepth 100000 in
set_option maxHeartbeats 4000000 in
theorem qreport_any (p : Nat) (D : Ce) (R : Nat → Prop) (w : World) (h : QCell w p D R) (ok : OkC D) :
    Calls Try.prog 16 #[.pointer (some ⟨p, 0, none⟩)] w fun e w' => ∃ a cap, e = .returned (msgV 2 D.n D.boot D.epoch D.ver D.unt a D.l.length cap) ∧ w'.ownsRow w.heap.size 35 3 (.slice a D.l.length cap) D.l.length (bdsV D.l) ∧ Below w.heap.size w w' := by
  obtain ⟨v, _, h⟩ := h
  have hb0 : Below w.heap.size w (w.alloc (.cells #[.int .i64 0, .int .i64 0, .int .i64 0, .int .i64 0, .int .i64 0, .int .i64 0, .slice none 0 0] 31)) := (Below.refl _ w).alloc (Nat.le_refl _) _
  have hnew := new_at w (.cells #[.int .i64 0, .int .i64 0, .int .i64 0, .int .i64 0, .int .i64 0, .int .i64 0, .slice none 0 0] 31)
  have h1 := h.below hb0.drew
  obtain ⟨a, cap, hv, hb⟩ := h1.binds
  subst hv
  obtain ⟨c0, c1, c2, c3, c4, c5, _, hpl⟩ := six_cells h1.blk
  obtain ⟨n, hl⟩ : ∃ n, D.l.length = n := ⟨_, rfl⟩
  have hn64 : n ≤ 64 := by rw [← hl]; exact ok.few.1
  rw [hl] at c5 hb ⊢
  obtain ⟨v', w', hr1, hr2, hr3⟩ := append_binds (cap := cap) hb (by omega)
  obtain ⟨a', cap', rfl⟩ := row_form hr2
  rw [hl] at hr1 hr2
  have hb1 := gb_none hr3
  have hpw : p < w.heap.size := h.lt.1
  have HAP := Lib.hid hr1
  have hsz1 : (w.alloc (.cells #[.int .i64 0, .int .i64 0, .int .i64 0, .int .i64 0, .int .i64 0, .int .i64 0, .slice none 0 0] 31)).drew.heap.size = w.heap.size + 1 := by simp
  have hm := (hb1.block w.heap.size (by omega)).trans (show (w.alloc (.cells #[.int .i64 0, .int .i64 0, .int .i64 0, .int .i64 0, .int .i64 0, .int .i64 0, .slice none 0 0] 31)).drew.heap[w.heap.size]? = _ from hnew)
  have HM := Lib.hid (msg_set (k := 2) (c := D.n) (b := D.boot) (e := D.epoch) (v := D.ver) (u := D.unt) (a := a') (n := n) (cap := cap') hm rfl)
  have hbw := (hb0.drew).trans (hb1.mono hb0.drew.size)
  have HBW := Lib.hid (seven_set hbw (Nat.le_refl _) (.int .i64 2) (.int .i64 D.n) (.int .i64 D.boot) (.int .i64 D.epoch) (.int .i64 D.ver) (.int .i64 D.unt) (.slice a' n cap'))
  have HRW : Hid ((((((((w'.setCell ⟨w.heap.size, 0, none⟩ (.int .i64 2)).setCell ⟨w.heap.size, 1, none⟩ (.int .i64 D.n)).setCell ⟨w.heap.size, 2, none⟩ (.int .i64 D.boot)).setCell ⟨w.heap.size, 3, none⟩ (.int .i64 D.epoch)).setCell ⟨w.heap.size, 4, none⟩ (.int .i64 D.ver)).setCell ⟨w.heap.size, 5, none⟩ (.int .i64 D.unt)).setCell ⟨w.heap.size, 6, none⟩ (.slice a' n cap')).ownsRow w.heap.size 35 3 (.slice a' n cap') n (bdsV D.l)) := Lib.hid (own_low (row_moved hr2 fun b e => seven_far _ _ _ (fun e' => by have := (hr2.lt b e).1; omega) _ _ _ _ _ _ _) (by omega))
  have hlm : w.heap.size < w'.heap.size := Nat.lt_of_lt_of_le (by omega) hb1.size
  obtain ⟨z0, z1, z2, z3, z4, z5, z6, zf, _⟩ : w'.cell? ⟨w.heap.size, 0, none⟩ = some (.int .i64 0) ∧ w'.cell? ⟨w.heap.size, 1, none⟩ = some (.int .i64 0) ∧ w'.cell? ⟨w.heap.size, 2, none⟩ = some (.int .i64 0) ∧ w'.cell? ⟨w.heap.size, 3, none⟩ = some (.int .i64 0) ∧ w'.cell? ⟨w.heap.size, 4, none⟩ = some (.int .i64 0) ∧ w'.cell? ⟨w.heap.size, 5, none⟩ = some (.int .i64 0) ∧ w'.cell? ⟨w.heap.size, 6, none⟩ = some (.slice none 0 0) ∧ (∀ i, w'.frozen? ⟨w.heap.size, i, none⟩ = false) ∧ True :=
    ⟨cell_of_row _ _ _ _ _ _ hm, cell_of_row _ _ _ _ _ _ hm, cell_of_row _ _ _ _ _ _ hm, cell_of_row _ _ _ _ _ _ hm, cell_of_row _ _ _ _ _ _ hm, cell_of_row _ _ _ _ _ _ hm, cell_of_row _ _ _ _ _ _ hm, fun i => by simp [World.frozen?, hm], trivial⟩
  have f0 := zf 0
  have f1 := zf 1
  have f2 := zf 2
  have f3 := zf 3
  have f4 := zf 4
  have f5 := zf 5
  have f6 := zf 6
  have hpl' : p < (w.alloc (.cells #[.int .i64 0, .int .i64 0, .int .i64 0, .int .i64 0, .int .i64 0, .int .i64 0, .slice none 0 0] 31)).drew.heap.size := hpl
  have HB1 := Lib.hid hb1
  obtain ⟨xn, hxn⟩ : ∃ x, D.n = x := ⟨_, rfl⟩
  obtain ⟨xb, hxb⟩ : ∃ x, D.boot = x := ⟨_, rfl⟩
  obtain ⟨xe, hxe⟩ : ∃ x, D.epoch = x := ⟨_, rfl⟩
  obtain ⟨xv, hxv⟩ : ∃ x, D.ver = x := ⟨_, rfl⟩
  obtain ⟨xu, hxu⟩ : ∃ x, D.unt = x := ⟨_, rfl⟩
  rw [hxn] at c0 HM HBW HRW
  rw [hxb] at c1 HM HBW HRW
  rw [hxe] at c2 HM HBW HRW
  rw [hxv] at c3 HM HBW HRW
  rw [hxu] at c4 HM HBW HRW
  rw [hxn, hxb, hxe, hxv, hxu]
  clear h h1 hb hb0 hnew hl ok hr1 hr2 hr3 hb1 hm hbw hsz1 hxn hxb hxe hxv hxu zf
  go_enter Try.func16, Try.ntmps16
  go_upto_region 2 with fail
  refine region_mix (fun W => W.cell? ⟨p, 0, none⟩ = some (.int .i64 xn) ∧ W.cell? ⟨p, 1, none⟩ = some (.int .i64 xb) ∧ W.cell? ⟨p, 2, none⟩ = some (.int .i64 xe) ∧ W.cell? ⟨p, 3, none⟩ = some (.int .i64 xv) ∧ W.cell? ⟨p, 4, none⟩ = some (.int .i64 xu) ∧ W.cell? ⟨p, 5, none⟩ = some (.slice a n cap)) (26) (.reads [0, 1, 2, 3, 4, 5, 6, 7, 8, 9, 10, 11, 12, 13, 14, 15, 16, 17, 18, 19, 20, 21, 22, 23, 24] (.only 25 (.only 26 (.only 27 (.stop))))) (by kernel_rfl) (by kernel_rfl) (⟨c0, c1, c2, c3, c4, c5⟩) ?_
  repeat (
    refine plan_read rfl (fun K hK => ?_)
    first
      | (refine plan_neg ?_ ?_
         focus (first | (go_simp; done) | (go_simp; decide))
         go_simp
         refine hK _ ?_
         clear hK K)
      | (apply plan_pos
         focus (go_simp; done)
         focus (
           intro W hW
           (obtain ⟨q0, q1, q2, q3, q4, q5⟩ := hW)
           go_simp
           first
             | done
             | exact rfl)
         go_simp
         refine hK _ ?_
         clear hK K))
  refine plan_only rfl (fun Q hQ => ?_)
  refine wpList_append_any rfl _ _ _ _ rfl _ _ _ _ rfl rfl HAP.out ?_
  refine hQ _ _ (fun _ => ⟨(HB1.out.cell (p := ⟨p, 0, none⟩) hpl').trans c0, (HB1.out.cell (p := ⟨p, 1, none⟩) hpl').trans c1, (HB1.out.cell (p := ⟨p, 2, none⟩) hpl').trans c2, (HB1.out.cell (p := ⟨p, 3, none⟩) hpl').trans c3, (HB1.out.cell (p := ⟨p, 4, none⟩) hpl').trans c4, (HB1.out.cell (p := ⟨p, 5, none⟩) hpl').trans c5⟩) ?_
  clear hQ Q
  refine plan_only rfl (fun Q hQ => ?_)
  go_wp2
  refine hQ _ _ (fun h => absurd h (by omega)) ?_
  clear hQ Q
  refine plan_only rfl (fun Q hQ => ?_)
  go_wp2
  refine hQ _ _ (fun h => absurd h (by omega)) ?_
  clear hQ Q
  unfold Plan.wp
  go_wp2
  (try simp only [Exit.inBlock, Exit.then])
  refine bodyPost_ret (results_cell_row (cs := #[.int .i64 2, .int .i64 xn, .int .i64 xb, .int .i64 xe, .int .i64 xv, .int .i64 xu, .slice a' n cap']) rfl _ _ w.heap.size 31 (0, 0) _ rfl HM.out Try.underlying31 rfl (by kernel_rfl)) rfl ?_
  exact ⟨a', cap', rfl, HRW.out, HBW.out⟩
end Go.Proofs.Ytbbogkmibiealaa
