/-
  Four cells: two of the program's, two of the document's.
-/
import Derived.Test.YtbbogkmibiealaaCcalls
namespace Go.Proofs.Ytbbogkmibiealaa
open Go.RowKit Gm

abbrev KP : Kind (Ce × Nat × Ce) := TwoK PCell PCell
abbrev KQ : Kind (Ce × Nat × Ce) := TwoK QCell QCell
theorem kp_law : Lawful KP := two_law pcell_law pcell_law
theorem kq_law : Lawful KQ := two_law qcell_law qcell_law
abbrev M4 (w0 w : World) (p : Nat) (D : Ce) (c : Nat) (E : Ce) (q : Nat) (D' : Ce) (d : Nat) (E' : Ce) (bs : List (Nat × Obj)) : Prop := Held KP KQ w0 w p (D, c, E) q (D', d, E') bs
theorem paIn : CellIn KP (fun p _ => p) (fun D => D.1) (fun D c => (c, D.2)) 11 15 17 := pIn.fst pcell_law
theorem pcIn : CellIn KP (fun _ D => D.2.1) (fun D => D.2.2) (fun D c => (D.1, D.2.1, c)) 11 15 17 := pIn.snd pcell_law
theorem qbIn : CellIn KQ (fun p _ => p) (fun D => D.1) (fun D c => (c, D.2)) 12 16 18 := qIn.fst qcell_law
theorem qdIn : CellIn KQ (fun _ D => D.2.1) (fun D => D.2.2) (fun D c => (D.1, D.2.1, c)) 12 16 18 := qIn.snd qcell_law
/-- A second one of the program's, one of the document's. -/
theorem four_new1 {Y : Type} {B : Kind Y} {w0 w : World} {p q : Nat} {D : Ce} {E : Y} {bs : List (Nat × Obj)} (hB : Lawful B) (h : Held PCell B w0 w p D q E bs) (n boot : Int) (hn : I64 n) (hb : I64 boot) :
    Calls Try.prog 9 #[.int .i64 n, .int .i64 boot] w fun e w' => ∃ c, e = .returned (.pointer (some ⟨c, 0, none⟩)) ∧ Held KP B w0 w' p (D, c, newC n boot) q E bs := by
  refine (pnew_any n boot w hn hb).mono ?_
  rintro e w' ⟨c, R', rfl, h1, h2, h3⟩
  obtain ⟨R, Q, g⟩ := h
  exact ⟨c, rfl, g.turn' hB (two_made pcell_law g.a h3 h1 h2)⟩
theorem four_new2 {X : Type} {A : Kind X} {w0 w : World} {p q : Nat} {D : X} {E : Ce} {bs : List (Nat × Obj)} (hA : Lawful A) (h : Held A QCell w0 w p D q E bs) (n boot : Int) :
    Calls Try.prog 10 #[.int .i64 n, .int .i64 boot] w fun e w' => ∃ d, e = .returned (.pointer (some ⟨d, 0, none⟩)) ∧ Held A KQ w0 w' p D q (E, d, newC n boot) bs := by
  refine (qnew_any n boot w).mono ?_
  rintro e w' ⟨d, R', rfl, h1, h2, h3⟩
  obtain ⟨R, Q, g⟩ := h.swap
  exact ⟨d, rfl, (g.turn' hA (two_made qcell_law g.a h3 h1 h2)).swap⟩
section
variable {w0 w : World} {p c q d : Nat} {D E D' E' : Ce} {bs : List (Nat × Obj)}
/-- Binds of the caller's. -/
theorem callers_at {X Y : Type} {A : Kind X} {B : Kind Y} {p q : Nat} {D : X} {E : Y} {R Q : Nat → Prop} (g : HeldR A B w0 w p D q E bs R Q) {a : Option Addr} {n : Nat} {l : List Bd} (hk : BindsB w0.heap.size w a n l) : BindsAt w (fun b => b < w.heap.size ∧ ¬ R b ∧ ¬ Q b) a n l :=
  bindsB_at hk fun b hb => ⟨Nat.lt_of_lt_of_le hb g.below.size, fun hr => by have := g.ra b hr; omega, fun hq => by have := g.qa b hq; omega⟩
theorem four_aR (h : M4 w0 w p D c E q D' d E' bs) (ok : OkC D) (k cc b e v u : Int) {a : Option Addr} {n cap : Nat} {l : List Bd} (hm : OkM ⟨k, cc, b, e, v, u, l⟩) (hr : RowK bs (.slice a n cap) l) :
    Calls Try.prog 11 #[.pointer (some ⟨p, 0, none⟩), msgV k cc b e v u a n cap] w fun x w' => x = .returned (.bool (tookC D ⟨k, cc, b, e, v, u, l⟩)) ∧ M4 w0 w' p (recvC D ⟨k, cc, b, e, v, u, l⟩) c E q D' d E' bs :=
  Held.recv1 paIn kq_law h ok k cc b e v u hm fun _ _ g => hr.at g
theorem four_bR (h : M4 w0 w p D c E q D' d E' bs) (ok : OkC D') (k cc b e v u : Int) {a : Option Addr} {n cap : Nat} {l : List Bd} (hm : OkM ⟨k, cc, b, e, v, u, l⟩) (hk : BindsB w0.heap.size w a n l) :
    Calls Try.prog 12 #[.pointer (some ⟨q, 0, none⟩), msgV k cc b e v u a n cap] w fun x w' => x = .returned (.bool (tookC D' ⟨k, cc, b, e, v, u, l⟩)) ∧ M4 w0 w' p D c E q (recvC D' ⟨k, cc, b, e, v, u, l⟩) d E' bs :=
  Held.recv2 qbIn kp_law h ok k cc b e v u hm fun _ _ g => callers_at g hk
theorem four_cR (h : M4 w0 w p D c E q D' d E' bs) (ok : OkC E) (k cc b e v u : Int) {a : Option Addr} {n cap : Nat} {l : List Bd} (hm : OkM ⟨k, cc, b, e, v, u, l⟩) (hr : RowK bs (.slice a n cap) l) :
    Calls Try.prog 11 #[.pointer (some ⟨c, 0, none⟩), msgV k cc b e v u a n cap] w fun x w' => x = .returned (.bool (tookC E ⟨k, cc, b, e, v, u, l⟩)) ∧ M4 w0 w' p D c (recvC E ⟨k, cc, b, e, v, u, l⟩) q D' d E' bs :=
  Held.recv1 pcIn kq_law h ok k cc b e v u hm fun _ _ g => hr.at g
theorem four_dR (h : M4 w0 w p D c E q D' d E' bs) (ok : OkC E') (k cc b e v u : Int) {a : Option Addr} {n cap : Nat} {l : List Bd} (hm : OkM ⟨k, cc, b, e, v, u, l⟩) (hr : RowK bs (.slice a n cap) l) :
    Calls Try.prog 12 #[.pointer (some ⟨d, 0, none⟩), msgV k cc b e v u a n cap] w fun x w' => x = .returned (.bool (tookC E' ⟨k, cc, b, e, v, u, l⟩)) ∧ M4 w0 w' p D c E q D' d (recvC E' ⟨k, cc, b, e, v, u, l⟩) bs :=
  Held.recv2 qdIn kp_law h ok k cc b e v u hm fun _ _ g => hr.at g
/-- WHAT A REPORT SAYS, of n binds. -/
abbrev RepD (w : World) (D : Ce) (n : Nat) (r : Ending) (w' : World) (a : Option Addr) (cap : Nat) : Prop := r = .returned (msgV 2 D.n D.boot D.epoch D.ver D.unt a n cap) ∧ w'.ownsRow w.heap.size 35 3 (.slice a n cap) n (bdsV D.l) ∧ Below w.heap.size w w'
abbrev RunD (w : World) (l : List Bd) (n : Nat) (r : Ending) (w' : World) (a : Option Addr) (cap : Nat) : Prop := r = .returned (.slice a n cap) ∧ w'.ownsRow w.heap.size 35 3 (.slice a n cap) n (bdsV l) ∧ Below w.heap.size w w'
theorem four_aP (h : M4 w0 w p D c E q D' d E' bs) (ok : OkC D) {n : Nat} (hn : D.l.length = n) :
    Calls Try.prog 15 #[.pointer (some ⟨p, 0, none⟩)] w fun r w' => ∃ a cap, RepD w D n r w' a cap ∧ M4 w0 w' p D c E q D' d E' bs := by
  subst hn
  exact (Held.rep1 paIn kq_law h ok).mono fun _ _ ⟨a, cap, h1, h2, h3, h4⟩ => ⟨a, cap, ⟨h1, h2, h3⟩, h4⟩
theorem four_bP (h : M4 w0 w p D c E q D' d E' bs) (ok : OkC D') {n : Nat} (hn : D'.l.length = n) :
    Calls Try.prog 16 #[.pointer (some ⟨q, 0, none⟩)] w fun r w' => ∃ a cap, RepD w D' n r w' a cap ∧ M4 w0 w' p D c E q D' d E' bs := by
  subst hn
  exact (Held.rep2 qbIn kp_law h ok).mono fun _ _ ⟨a, cap, h1, h2, h3, h4⟩ => ⟨a, cap, ⟨h1, h2, h3⟩, h4⟩
theorem four_cP (h : M4 w0 w p D c E q D' d E' bs) (ok : OkC E) {n : Nat} (hn : E.l.length = n) :
    Calls Try.prog 15 #[.pointer (some ⟨c, 0, none⟩)] w fun r w' => ∃ a cap, RepD w E n r w' a cap ∧ M4 w0 w' p D c E q D' d E' bs := by
  subst hn
  exact (Held.rep1 pcIn kq_law h ok).mono fun _ _ ⟨a, cap, h1, h2, h3, h4⟩ => ⟨a, cap, ⟨h1, h2, h3⟩, h4⟩
theorem four_dP (h : M4 w0 w p D c E q D' d E' bs) (ok : OkC E') {n : Nat} (hn : E'.l.length = n) :
    Calls Try.prog 16 #[.pointer (some ⟨d, 0, none⟩)] w fun r w' => ∃ a cap, RepD w E' n r w' a cap ∧ M4 w0 w' p D c E q D' d E' bs := by
  subst hn
  exact (Held.rep2 qdIn kp_law h ok).mono fun _ _ ⟨a, cap, h1, h2, h3, h4⟩ => ⟨a, cap, ⟨h1, h2, h3⟩, h4⟩
theorem four_aU (h : M4 w0 w p D c E q D' d E' bs) (ok : OkC D) (now : Int) (hw : I64 now) {l : List Bd} (hl : runC D now = l) {n : Nat} (hn : l.length = n) :
    Calls Try.prog 17 #[.pointer (some ⟨p, 0, none⟩), .int .i64 now] w fun r w' => ∃ a cap, RunD w l n r w' a cap ∧ M4 w0 w' p D c E q D' d E' bs := by
  subst hn hl
  exact (Held.run1 paIn kq_law h ok now hw).mono fun _ _ ⟨a, cap, h1, h2, h3, h4⟩ => ⟨a, cap, ⟨h1, h2, h3⟩, h4⟩
theorem four_bU (h : M4 w0 w p D c E q D' d E' bs) (ok : OkC D') (now : Int) (hw : I64 now) {l : List Bd} (hl : runC D' now = l) {n : Nat} (hn : l.length = n) :
    Calls Try.prog 18 #[.pointer (some ⟨q, 0, none⟩), .int .i64 now] w fun r w' => ∃ a cap, RunD w l n r w' a cap ∧ M4 w0 w' p D c E q D' d E' bs := by
  subst hn hl
  exact (Held.run2 qbIn kp_law h ok now hw).mono fun _ _ ⟨a, cap, h1, h2, h3, h4⟩ => ⟨a, cap, ⟨h1, h2, h3⟩, h4⟩
theorem four_cU (h : M4 w0 w p D c E q D' d E' bs) (ok : OkC E) (now : Int) (hw : I64 now) {l : List Bd} (hl : runC E now = l) {n : Nat} (hn : l.length = n) :
    Calls Try.prog 17 #[.pointer (some ⟨c, 0, none⟩), .int .i64 now] w fun r w' => ∃ a cap, RunD w l n r w' a cap ∧ M4 w0 w' p D c E q D' d E' bs := by
  subst hn hl
  exact (Held.run1 pcIn kq_law h ok now hw).mono fun _ _ ⟨a, cap, h1, h2, h3, h4⟩ => ⟨a, cap, ⟨h1, h2, h3⟩, h4⟩
theorem four_dU (h : M4 w0 w p D c E q D' d E' bs) (ok : OkC E') (now : Int) (hw : I64 now) {l : List Bd} (hl : runC E' now = l) {n : Nat} (hn : l.length = n) :
    Calls Try.prog 18 #[.pointer (some ⟨d, 0, none⟩), .int .i64 now] w fun r w' => ∃ a cap, RunD w l n r w' a cap ∧ M4 w0 w' p D c E q D' d E' bs := by
  subst hn hl
  exact (Held.run2 qdIn kp_law h ok now hw).mono fun _ _ ⟨a, cap, h1, h2, h3, h4⟩ => ⟨a, cap, ⟨h1, h2, h3⟩, h4⟩
end
/-- Both tell the same. -/
theorem four_rep {W w9 w10 : World} {D2 : Ce} {ra sa : Option Addr} {dn rc sc : Nat} (hd : dn ≤ 64) (ho9 : w9.ownsRow W.heap.size 35 3 (.slice ra dn rc) dn (bdsV D2.l)) (hb10 : Below w9.heap.size w9 w10) (ho10 : w10.ownsRow w9.heap.size 35 3 (.slice sa dn sc) dn (bdsV D2.l)) :
    Calls Try.prog 14 #[msgV 2 D2.n D2.boot D2.epoch D2.ver D2.unt ra dn rc, msgV 2 D2.n D2.boot D2.epoch D2.ver D2.unt sa dn sc] w10 fun x w' => x = .returned (.bool true) ∧ Below w10.heap.size w10 w' :=
  (same16_any 2 D2.n D2.boot D2.epoch D2.ver D2.unt 2 D2.n D2.boot D2.epoch D2.ver D2.unt ra sa dn rc dn sc D2.l D2.l w10 (by omega) (later_binds ho9 hb10) (fresh_binds ho10)).mono fun x w' ⟨h1, h2⟩ => ⟨h1.trans (by simp), h2⟩
theorem four_run {W w9 w10 : World} {l : List Bd} {ra sa : Option Addr} {dn rc sc : Nat} (hd : dn ≤ 64) (ho9 : w9.ownsRow W.heap.size 35 3 (.slice ra dn rc) dn (bdsV l)) (hb10 : Below w9.heap.size w9 w10) (ho10 : w10.ownsRow w9.heap.size 35 3 (.slice sa dn sc) dn (bdsV l)) :
    Calls Try.prog 13 #[.slice ra dn rc, .slice sa dn sc] w10 fun x w' => x = .returned (.bool true) ∧ Below w10.heap.size w10 w' :=
  same8_self ra sa dn rc dn sc l w10 (by omega) (later_binds ho9 hb10) (fresh_binds ho10)
theorem run_len {D : Ce} (ok : OkC D) (now : Int) : (runC D now).length ≤ 64 := by
  have := ok.few.1
  unfold runC
  split
  · omega
  · simp
/-- THE LAW's OWN ROW OF n BINDS, whose counts are written over. -/
def OwnRow (bs : List (Nat × Obj)) (a : Option Addr) (n : Nat) : Prop := n = 0 ∨ ∃ g cur, (g, Obj.cells cur 35 (0, 0)) ∈ bs ∧ a = some ⟨g, 0, none⟩ ∧ n * 3 ≤ cur.size
theorem RowK.own {bs : List (Nat × Obj)} {a : Option Addr} {n cap : Nat} {l : List Bd} (h : RowK bs (.slice a n cap) l) : OwnRow bs a n := by
  obtain ⟨a', cap', h1, h2⟩ := h
  injection h1 with e1 e2 e3
  subst e1 e2
  rcases h2 with rfl | ⟨g, cur, hm, ha, ht⟩
  · exact .inl rfl
  · refine .inr ⟨g, cur, hm, ha, ?_⟩
    have h3 : (cur.toList.take (l.length * 3)).length = (bdsV l).length := congrArg List.length ht
    rw [List.length_take, bdsV_len] at h3
    have h4 : cur.toList.length = cur.size := rfl
    omega
/-- One of its counts is written over. -/
theorem Held.over {X Y : Type} {A : Kind X} {B : Kind Y} {w0 w : World} {p q : Nat} {D : X} {E : Y} {bs : List (Nat × Obj)} (hA : Lawful A) (hB : Lawful B) (h : Held A B w0 w p D q E bs) {a : Option Addr} {n : Nat} (hr : OwnRow bs a n) {j : Nat} (hj : j < n) (u : Value) :
    ∃ g, a = some ⟨g, 0, none⟩ ∧ g < w.heap.size ∧ (∃ x, w.cell? ⟨g, j * 3 + 2, none⟩ = some x) ∧ w.frozen? ⟨g, j * 3 + 2, none⟩ = false ∧ ∃ bs', Held A B w0 (w.setCell ⟨g, j * 3 + 2, none⟩ u) p D q E bs' ∧ OwnRow bs' a n := by
  rcases hr with hr | ⟨g, cur, hm, ha, hs⟩
  · omega
  · have hg := h.own hm
    obtain ⟨bs', h1, h2, _⟩ := h.setMem hA hB hm (j * 3 + 2) u
    have hlt : j * 3 + 2 < cur.size := by omega
    exact ⟨g, ha, (Array.getElem?_eq_some_iff.1 hg).1, ⟨cur[j * 3 + 2], by rw [cell_of_row w g _ cur 35 (0, 0) hg, Array.getElem?_eq_getElem hlt]⟩, by simp [World.frozen?, hg], bs', h1, .inr ⟨g, _, h2, ha, by simpa using hs⟩⟩
/-- One message of the caller's. -/
theorem MsgsAt.get {B : Nat} {W : World} {a : Option Addr} {len : Nat} {l : List Ms} (h : MsgsAt B W a len l) {i : Nat} (hi : i < len) : ∃ b off, a = some ⟨b, off, none⟩ ∧ b < B ∧ ∃ h : i < l.length, MsgAt B W b (off + i * 7) l[i] := by
  obtain ⟨h0, _, b, off, h1, h2⟩ := h
  have hil : i < l.length := by omega
  rcases h1 with h1 | h1
  · omega
  · exact ⟨b, off, h1, (h2 i hil).1, hil, (h2 i hil).2⟩
end Go.Proofs.Ytbbogkmibiealaa
