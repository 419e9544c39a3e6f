/-
  Cells beside each other: each of the methods by one law; rows of binds that the law keeps.
-/
import Derived.Test.YtbbogkmibiealaaCqrecv
import Derived.Test.YtbbogkmibiealaaCp
namespace Go.Proofs.Ytbbogkmibiealaa
open Go.RowKit Gm

/-- Two objects as one: the second one's block is told in the datum. -/
def TwoK {X X' : Type} (A : Kind X) (A' : Kind X') : Kind (X × Nat × X') := fun w p D R => ∃ R1 R2, A w p D.1 R1 ∧ A' w D.2.1 D.2.2 R2 ∧ (∀ b, R1 b → ¬ R2 b) ∧ ∀ b, R b ↔ R1 b ∨ R2 b
section
variable {X X' : Type} {A : Kind X} {A' : Kind X'} {w w' : World} {p : Nat} {D : X × Nat × X'} {R : Nat → Prop}
theorem two_law (hA : Lawful A) (hA' : Lawful A') : Lawful (TwoK A A') where
  lt := fun ⟨R1, R2, h1, h2, _, h4⟩ b hb => by
    rcases (h4 b).1 hb with h | h
    · exact hA.lt h1 b h
    · exact hA'.lt h2 b h
  keep := fun ⟨R1, R2, h1, h2, h3, h4⟩ hs hb => ⟨R1, R2, hA.keep h1 hs fun b h => hb b ((h4 b).2 (.inl h)), hA'.keep h2 hs fun b h => hb b ((h4 b).2 (.inr h)), h3, h4⟩
theorem two_fst (hA' : Lawful A') {R1 R2 : Nat → Prop} (_h1 : A w p D.1 R1) (h2 : A' w D.2.1 D.2.2 R2) (h3 : ∀ b, R1 b → ¬ R2 b) (h4 : ∀ b, R b ↔ R1 b ∨ R2 b) {D' : X} (ht : Turn A w w' p D' R1) : Turn (TwoK A A') w w' p (D', D.2) R := by
  obtain ⟨R', t1, t2, t3⟩ := ht
  refine ⟨fun b => R' b ∨ R2 b, ⟨R', R2, t1, hA'.keep h2 t2.size fun b hb => t2.block b (hA'.lt h2 b hb) fun h => h3 b h hb, fun b hb hb' => ?_, fun _ => Iff.rfl⟩, ⟨t2.os, t2.tape, t2.output, t2.size, fun b hb hn => t2.block b hb fun h => hn ((h4 b).2 (.inl h))⟩, fun b hb => ?_⟩
  · rcases t3 b hb with h | h
    · exact h3 b h hb'
    · have := hA'.lt h2 b hb'; omega
  · rcases hb with h | h
    · exact (t3 b h).imp (fun h => (h4 b).2 (.inl h)) id
    · exact .inl ((h4 b).2 (.inr h))
theorem two_snd (hA : Lawful A) {R1 R2 : Nat → Prop} (h1 : A w p D.1 R1) (_h2 : A' w D.2.1 D.2.2 R2) (h3 : ∀ b, R1 b → ¬ R2 b) (h4 : ∀ b, R b ↔ R1 b ∨ R2 b) {D' : X'} (ht : Turn A' w w' D.2.1 D' R2) : Turn (TwoK A A') w w' p (D.1, D.2.1, D') R := by
  obtain ⟨R', t1, t2, t3⟩ := ht
  refine ⟨fun b => R1 b ∨ R' b, ⟨R1, R', hA.keep h1 t2.size fun b hb => t2.block b (hA.lt h1 b hb) fun h => h3 b hb h, t1, fun b hb hb' => ?_, fun _ => Iff.rfl⟩, ⟨t2.os, t2.tape, t2.output, t2.size, fun b hb hn => t2.block b hb fun h => hn ((h4 b).2 (.inr h))⟩, fun b hb => ?_⟩
  · rcases t3 b hb' with h | h
    · exact h3 b hb h
    · have := hA.lt h1 b hb; omega
  · rcases hb with h | h
    · exact .inl ((h4 b).2 (.inl h))
    · exact (t3 b h).imp (fun h => (h4 b).2 (.inr h)) id
/-- A second one is made. -/
theorem two_made (hA : Lawful A) {q : Nat} {E : X} (h1 : A w q E R) (hb : Below w.heap.size w w') {D' : X'} {R' : Nat → Prop} (h2 : A' w' p D' R') (hr : ∀ b, R' b → w.heap.size ≤ b) : Turn (TwoK A A') w w' q (E, p, D') R :=
  ⟨fun b => R b ∨ R' b, ⟨R, R', hA.keep h1 hb.size fun b h => hb.block b (hA.lt h1 b h), h2, fun b h h' => by have := hA.lt h1 b h; have := hr b h'; omega, fun _ => Iff.rfl⟩, Beside.of_below hb, fun b h => h.imp id (hr b)⟩
end
/-- What a turn into another kind leaves. -/
theorem HeldR.turn' {X X' Y : Type} {A : Kind X} {A' : Kind X'} {B : Kind Y} {w0 w w' : World} {p q : Nat} {D : X} {D' : X'} {E : Y} {bs : List (Nat × Obj)} {R Q : Nat → Prop} (hB : Lawful B) (h : HeldR A B w0 w p D q E bs R Q) (ht : Turn A' w w' p D' R) : Held A' B w0 w' p D' q E bs := by
  obtain ⟨R', h1, h2, h3⟩ := ht
  have hz := h.below.size
  refine ⟨R', Q, h1, hB.keep h.b h2.size fun b hq => h2.block b (hB.lt h.b b hq) (fun hr => h.ne b hr hq), fun b hr hq => ?_, fun b hr => ?_, h.qa, fun x hx => ?_, h.nd, h2.below h.below hz h.ra⟩
  · rcases h3 b hr with hr | hr
    · exact h.ne b hr hq
    · have := hB.lt h.b b hq; omega
  · rcases h3 b hr with hr | hr
    · exact h.ra b hr
    · omega
  · obtain ⟨k1, k2, k3, k4⟩ := h.own x hx
    have hl := (Array.getElem?_eq_some_iff.1 k1).1
    refine ⟨(h2.block x.1 hl k2).trans k1, fun hr => ?_, k3, k4⟩
    rcases h3 _ hr with hr | hr
    · exact k2 hr
    · omega
/-- THE LAW's OWN BLOCKS BEAR THE SLICE v OF THESE BINDS (or there are none). -/
def RowK (bs : List (Nat × Obj)) (v : Value) (l : List Bd) : Prop := ∃ a cap, v = .slice a l.length cap ∧ (l = [] ∨ ∃ g cur, (g, Obj.cells cur 35 (0, 0)) ∈ bs ∧ a = some ⟨g, 0, none⟩ ∧ cur.toList.take (l.length * 3) = bdsV l)
theorem RowK.nil (bs : List (Nat × Obj)) : RowK bs (.slice none 0 0) [] := ⟨none, 0, rfl, .inl rfl⟩
theorem RowK.more {bs cs : List (Nat × Obj)} {v : Value} {l : List Bd} (h : RowK bs v l) (hs : ∀ x ∈ bs, x ∈ cs) : RowK cs v l := by
  obtain ⟨a, cap, h1, h2⟩ := h
  exact ⟨a, cap, h1, h2.imp id fun ⟨g, cur, h3, h4⟩ => ⟨g, cur, hs _ h3, h4⟩⟩
theorem RowK.form {bs : List (Nat × Obj)} {v : Value} {l : List Bd} (h : RowK bs v l) : ∃ a cap, v = .slice a l.length cap := by
  obtain ⟨a, cap, h1, _⟩ := h
  exact ⟨a, cap, h1⟩
section
variable {X Y : Type} {A : Kind X} {B : Kind Y} {w0 w w' : World} {p q : Nat} {D : X} {E : Y} {bs : List (Nat × Obj)} {R Q : Nat → Prop}
theorem RowK.at {a : Option Addr} {n cap : Nat} {l : List Bd} (h : RowK bs (.slice a n cap) l) (H : HeldR A B w0 w p D q E bs R Q) : BindsAt w (fun b => b < w.heap.size ∧ ¬ R b ∧ ¬ Q b) a n l := by
  obtain ⟨a', cap', h1, h2⟩ := h
  injection h1 with e1 e2 e3
  subst e1 e2
  refine ⟨rfl, ?_⟩
  rcases h2 with rfl | ⟨g, cur, hm, ha, ht⟩
  · exact ⟨0, 0, .inl rfl, fun i hi => by simp at hi⟩
  · obtain ⟨k1, k2, k3, _⟩ := H.own _ hm
    dsimp only at k1 k2 k3
    refine ⟨g, 0, .inr ⟨ha, (Array.getElem?_eq_some_iff.1 k1).1, k2, k3⟩, fun i hi => ?_⟩
    obtain ⟨f0, f1, f2⟩ := bdsV_at l i hi
    have hat : ∀ j, j < l.length * 3 → w.cell? ⟨g, j, none⟩ = (bdsV l)[j]? := fun j hj => by
      rw [cell_of_row w g j cur 35 (0, 0) k1, ← ht, List.getElem?_take_of_lt hj, Array.getElem?_toList]
    rw [Nat.zero_add, hat _ (by omega), hat _ (by omega), hat _ (by omega)]
    exact ⟨f0, f1, f2⟩
theorem RowK.now {a : Option Addr} {n cap : Nat} {l : List Bd} (h : RowK bs (.slice a n cap) l) (H : Held A B w0 w p D q E bs) : BindsAt w (· < w.heap.size) a n l := by
  obtain ⟨R, Q, H⟩ := H
  exact (h.at H).imp fun _ h => h.1
/-- A row that was made since is kept. -/
theorem Held.row (hA : Lawful A) (hB : Lawful B) (h : Held A B w0 w p D q E bs) (hb : Below w.heap.size w w') {v : Value} {l : List Bd} (hr : w'.ownsRow w.heap.size 35 3 v l.length (bdsV l)) : ∃ cs, Held A B w0 w' p D q E cs ∧ (∀ x ∈ bs, x ∈ cs) ∧ RowK cs v l := by
  rcases hr.2 with ⟨hv, h0⟩ | ⟨g, cap, cur, hv, hg, hh, hle, hm, hs, ht⟩
  · have hl : l = [] := List.eq_nil_of_length_eq_zero h0
    subst hl
    exact ⟨bs, h.below hA hB hb, fun _ h => h, none, 0, hv, .inl rfl⟩
  · exact ⟨_, h.adopt hA hB hb hg hh, fun x hx => List.mem_cons_of_mem _ hx, some ⟨g, 0, none⟩, cap, hv, .inr ⟨g, cur, List.mem_cons_self .., rfl, ht⟩⟩
end
/-- A cell of one of the law's own blocks is written. -/
theorem Held.setMem {X Y : Type} {A : Kind X} {B : Kind Y} {w0 w : World} {p q : Nat} {D : X} {E : Y} {bs : List (Nat × Obj)} (hA : Lawful A) (hB : Lawful B) (h : Held A B w0 w p D q E bs) {g : Nat} {cs : Array Value} {t : TypeId} (hm : (g, Obj.cells cs t (0, 0)) ∈ bs) (i : Nat) (u : Value) :
    ∃ bs', Held A B w0 (w.setCell ⟨g, i, none⟩ u) p D q E bs' ∧ (g, Obj.cells (cs.setIfInBounds i u) t (0, 0)) ∈ bs' ∧ ∀ x ∈ bs, x.1 ≠ g → x ∈ bs' := by
  obtain ⟨pre, post, rfl⟩ := List.append_of_mem hm
  refine ⟨_, h.setIn hA hB i u, List.mem_append_right _ (List.mem_cons_self ..), fun x hx hn => ?_⟩
  rcases List.mem_append.1 hx with hx | hx
  · exact List.mem_append_left _ hx
  · rcases List.mem_cons.1 hx with rfl | hx
    · exact absurd rfl hn
    · exact List.mem_append_right _ (List.mem_cons_of_mem _ hx)
/-- A row that was just made, as the calls take it. -/
theorem fresh_binds {w w' : World} {a : Option Addr} {n cap : Nat} {l : List Bd} (hr : w'.ownsRow w.heap.size 35 3 (.slice a n cap) n (bdsV l)) : BindsAt w' (· < w'.heap.size) a n l := by
  obtain ⟨a', cap', h1, h2, h3⟩ := binds_own hr
  injection h1 with e1 e2 e3
  subst e1
  exact h3.imp fun b e => (hr.lt b e).2
/-- WHAT A CELL's METHODS SAY, of a cell that is a part of whatever object. -/
structure CellIn {X : Type} (K : Kind X) (ptr : Nat → X → Nat) (get : X → Ce) (set : X → Ce → X) (fr fp fu : FuncId) : Prop where
  law : Lawful K
  recv : ∀ {w p D R} (k c b e v u : Int) {a : Option Addr} {n cap : Nat} {l : List Bd}, K w p D R → OkC (get D) → OkM ⟨k, c, b, e, v, u, l⟩ → BindsAt w (fun b => b < w.heap.size ∧ ¬ R b) a n l →
    Calls Try.prog fr #[.pointer (some ⟨ptr p D, 0, none⟩), msgV k c b e v u a n cap] w fun x w' => x = .returned (.bool (tookC (get D) ⟨k, c, b, e, v, u, l⟩)) ∧ Turn K w w' p (set D (recvC (get D) ⟨k, c, b, e, v, u, l⟩)) R
  rep : ∀ {w p D R}, K w p D R → OkC (get D) →
    Calls Try.prog fp #[.pointer (some ⟨ptr p D, 0, none⟩)] w fun e w' => ∃ a cap, e = .returned (msgV 2 (get D).n (get D).boot (get D).epoch (get D).ver (get D).unt a (get D).l.length cap) ∧ w'.ownsRow w.heap.size 35 3 (.slice a (get D).l.length cap) (get D).l.length (bdsV (get D).l) ∧ Below w.heap.size w w'
  run : ∀ {w p D R} (now : Int), K w p D R → OkC (get D) → I64 now →
    Calls Try.prog fu #[.pointer (some ⟨ptr p D, 0, none⟩), .int .i64 now] w fun e w' => ∃ a cap, e = .returned (.slice a (runC (get D) now).length cap) ∧ w'.ownsRow w.heap.size 35 3 (.slice a (runC (get D) now).length cap) (runC (get D) now).length (bdsV (runC (get D) now)) ∧ Below w.heap.size w w'
theorem pIn : CellIn PCell (fun p _ => p) id (fun _ c => c) 11 15 17 where
  law := pcell_law
  recv := fun {_ _ _ _} k c b e v u {_ _ _ _} h ok hm hb => preceive_any _ _ _ k c b e v u _ _ _ _ _ h ok hm hb
  rep := fun {_ _ _ _} h ok => preport_any _ _ _ _ h ok
  run := fun {_ _ _ _} now h ok hn => prun_any _ _ _ now _ h ok hn
theorem qIn : CellIn QCell (fun p _ => p) id (fun _ c => c) 12 16 18 where
  law := qcell_law
  recv := fun {_ _ _ _} k c b e v u {_ _ _ _} h ok hm hb => qreceive_any _ _ _ k c b e v u _ _ _ _ _ h ok hm hb
  rep := fun {_ _ _ _} h ok => qreport_any _ _ _ _ h ok
  run := fun {_ _ _ _} now h ok hn => qrun_any _ _ _ now _ h ok hn
section
variable {X' : Type} {A : Kind Ce} {A' : Kind X'} {fr fp fu : FuncId}
theorem CellIn.fst (M : CellIn A (fun p _ => p) id (fun _ c => c) fr fp fu) (hA' : Lawful A') : CellIn (TwoK A A') (fun p _ => p) (fun D => D.1) (fun D c => (c, D.2)) fr fp fu where
  law := two_law M.law hA'
  recv := fun {_ _ _ _} k c b e v u {_ _ _ _} ⟨_, _, h1, h2, h3, h4⟩ ok hm hb => (M.recv k c b e v u h1 ok hm (hb.imp fun x h => ⟨h.1, fun e => h.2 ((h4 x).2 (.inl e))⟩)).mono fun _ _ ⟨g1, g2⟩ => ⟨g1, two_fst hA' h1 h2 h3 h4 g2⟩
  rep := fun {_ _ _ _} ⟨_, _, h1, _, _, _⟩ ok => M.rep h1 ok
  run := fun {_ _ _ _} now ⟨_, _, h1, _, _, _⟩ ok hn => M.run now h1 ok hn
end
section
variable {X : Type} {A : Kind X} {A' : Kind Ce} {fr fp fu : FuncId}
theorem CellIn.snd (M : CellIn A' (fun p _ => p) id (fun _ c => c) fr fp fu) (hA : Lawful A) : CellIn (TwoK A A') (fun _ D => D.2.1) (fun D => D.2.2) (fun D c => (D.1, D.2.1, c)) fr fp fu where
  law := two_law hA M.law
  recv := fun {_ _ _ _} k c b e v u {_ _ _ _} ⟨_, _, h1, h2, h3, h4⟩ ok hm hb => (M.recv k c b e v u h2 ok hm (hb.imp fun x h => ⟨h.1, fun e => h.2 ((h4 x).2 (.inr e))⟩)).mono fun _ _ ⟨g1, g2⟩ => ⟨g1, two_snd hA h1 h2 h3 h4 g2⟩
  rep := fun {_ _ _ _} ⟨_, _, _, h2, _, _⟩ ok => M.rep h2 ok
  run := fun {_ _ _ _} now ⟨_, _, _, h2, _, _⟩ ok hn => M.run now h2 ok hn
end
section
variable {X Y : Type} {A : Kind X} {B : Kind Y} {w0 w : World} {p q : Nat} {D : X} {E : Y} {bs : List (Nat × Obj)} {ptr : Nat → X → Nat} {get : X → Ce} {set : X → Ce → X} {ptr' : Nat → Y → Nat} {get' : Y → Ce} {set' : Y → Ce → Y} {fr fp fu : FuncId}
theorem Held.recv1 (M : CellIn A ptr get set fr fp fu) (hB : Lawful B) (h : Held A B w0 w p D q E bs) (ok : OkC (get D)) (k c b e v u : Int) {a : Option Addr} {n cap : Nat} {l : List Bd} (hm : OkM ⟨k, c, b, e, v, u, l⟩) (hb : ∀ R Q, HeldR A B w0 w p D q E bs R Q → BindsAt w (fun b => b < w.heap.size ∧ ¬ R b ∧ ¬ Q b) a n l) :
    Calls Try.prog fr #[.pointer (some ⟨ptr p D, 0, none⟩), msgV k c b e v u a n cap] w fun x w' => x = .returned (.bool (tookC (get D) ⟨k, c, b, e, v, u, l⟩)) ∧ Held A B w0 w' p (set D (recvC (get D) ⟨k, c, b, e, v, u, l⟩)) q E bs :=
  h.call hB fun R Q g => M.recv k c b e v u g.a ok hm ((hb R Q g).imp fun _ h => ⟨h.1, h.2.1⟩)
theorem Held.rep1 (M : CellIn A ptr get set fr fp fu) (hB : Lawful B) (h : Held A B w0 w p D q E bs) (ok : OkC (get D)) :
    Calls Try.prog fp #[.pointer (some ⟨ptr p D, 0, none⟩)] w fun e w' => ∃ a cap, e = .returned (msgV 2 (get D).n (get D).boot (get D).epoch (get D).ver (get D).unt a (get D).l.length cap) ∧ w'.ownsRow w.heap.size 35 3 (.slice a (get D).l.length cap) (get D).l.length (bdsV (get D).l) ∧ Below w.heap.size w w' ∧ Held A B w0 w' p D q E bs :=
  (h.read M.law hB (Z := fun e w' => ∃ a cap, e = .returned (msgV 2 (get D).n (get D).boot (get D).epoch (get D).ver (get D).unt a (get D).l.length cap) ∧ w'.ownsRow w.heap.size 35 3 (.slice a (get D).l.length cap) (get D).l.length (bdsV (get D).l)) fun _ g => (M.rep g ok).mono fun _ _ ⟨a, cap, h1, h2, h3⟩ => ⟨⟨a, cap, h1, h2⟩, h3⟩).mono fun _ _ ⟨⟨a, cap, h1, h2⟩, h3, h4⟩ => ⟨a, cap, h1, h2, h3, h4⟩
theorem Held.run1 (M : CellIn A ptr get set fr fp fu) (hB : Lawful B) (h : Held A B w0 w p D q E bs) (ok : OkC (get D)) (now : Int) (hn : I64 now) :
    Calls Try.prog fu #[.pointer (some ⟨ptr p D, 0, none⟩), .int .i64 now] w fun e w' => ∃ a cap, e = .returned (.slice a (runC (get D) now).length cap) ∧ w'.ownsRow w.heap.size 35 3 (.slice a (runC (get D) now).length cap) (runC (get D) now).length (bdsV (runC (get D) now)) ∧ Below w.heap.size w w' ∧ Held A B w0 w' p D q E bs :=
  (h.read M.law hB (Z := fun e w' => ∃ a cap, e = .returned (.slice a (runC (get D) now).length cap) ∧ w'.ownsRow w.heap.size 35 3 (.slice a (runC (get D) now).length cap) (runC (get D) now).length (bdsV (runC (get D) now))) fun _ g => (M.run now g ok hn).mono fun _ _ ⟨a, cap, h1, h2, h3⟩ => ⟨⟨a, cap, h1, h2⟩, h3⟩).mono fun _ _ ⟨⟨a, cap, h1, h2⟩, h3, h4⟩ => ⟨a, cap, h1, h2, h3, h4⟩
theorem Held.recv2 (M : CellIn B ptr' get' set' fr fp fu) (hA : Lawful A) (h : Held A B w0 w p D q E bs) (ok : OkC (get' E)) (k c b e v u : Int) {a : Option Addr} {n cap : Nat} {l : List Bd} (hm : OkM ⟨k, c, b, e, v, u, l⟩) (hb : ∀ R Q, HeldR A B w0 w p D q E bs R Q → BindsAt w (fun b => b < w.heap.size ∧ ¬ R b ∧ ¬ Q b) a n l) :
    Calls Try.prog fr #[.pointer (some ⟨ptr' q E, 0, none⟩), msgV k c b e v u a n cap] w fun x w' => x = .returned (.bool (tookC (get' E) ⟨k, c, b, e, v, u, l⟩)) ∧ Held A B w0 w' p D q (set' E (recvC (get' E) ⟨k, c, b, e, v, u, l⟩)) bs :=
  (h.swap.recv1 M hA ok k c b e v u hm fun R Q g => (hb Q R ⟨g.b, g.a, fun b hq hr => g.ne b hr hq, g.qa, g.ra, fun x hx => ⟨(g.own x hx).1, (g.own x hx).2.2.1, (g.own x hx).2.1, (g.own x hx).2.2.2⟩, g.nd, g.below⟩).imp fun _ h => ⟨h.1, h.2.2, h.2.1⟩).mono fun _ _ ⟨h1, h2⟩ => ⟨h1, h2.swap⟩
theorem Held.rep2 (M : CellIn B ptr' get' set' fr fp fu) (hA : Lawful A) (h : Held A B w0 w p D q E bs) (ok : OkC (get' E)) :
    Calls Try.prog fp #[.pointer (some ⟨ptr' q E, 0, none⟩)] w fun e w' => ∃ a cap, e = .returned (msgV 2 (get' E).n (get' E).boot (get' E).epoch (get' E).ver (get' E).unt a (get' E).l.length cap) ∧ w'.ownsRow w.heap.size 35 3 (.slice a (get' E).l.length cap) (get' E).l.length (bdsV (get' E).l) ∧ Below w.heap.size w w' ∧ Held A B w0 w' p D q E bs :=
  (h.swap.rep1 M hA ok).mono fun _ _ ⟨a, cap, h1, h2, h3, h4⟩ => ⟨a, cap, h1, h2, h3, h4.swap⟩
theorem Held.run2 (M : CellIn B ptr' get' set' fr fp fu) (hA : Lawful A) (h : Held A B w0 w p D q E bs) (ok : OkC (get' E)) (now : Int) (hn : I64 now) :
    Calls Try.prog fu #[.pointer (some ⟨ptr' q E, 0, none⟩), .int .i64 now] w fun e w' => ∃ a cap, e = .returned (.slice a (runC (get' E) now).length cap) ∧ w'.ownsRow w.heap.size 35 3 (.slice a (runC (get' E) now).length cap) (runC (get' E) now).length (bdsV (runC (get' E) now)) ∧ Below w.heap.size w w' ∧ Held A B w0 w' p D q E bs :=
  (h.swap.run1 M hA ok now hn).mono fun _ _ ⟨a, cap, h1, h2, h3, h4⟩ => ⟨a, cap, h1, h2, h3, h4.swap⟩
/-- New cells. -/
theorem Held.pNew1 {x : Nat} {X0 : Ce} (hB : Lawful B) (h : Held Nobody B w0 w x X0 q E bs) (n boot : Int) (hn : I64 n) (hb : I64 boot) :
    Calls Try.prog 9 #[.int .i64 n, .int .i64 boot] w fun e w' => ∃ p, e = .returned (.pointer (some ⟨p, 0, none⟩)) ∧ Held PCell B w0 w' p (newC n boot) q E bs :=
  (pnew_any n boot w hn hb).mono fun _ _ ⟨p, _, h1, h2, h3, h4⟩ => ⟨p, h1, h.made hB h2 h3 h4⟩
theorem Held.pNew2 {x : Nat} {X0 : Ce} (hA : Lawful A) (h : Held A Nobody w0 w p D x X0 bs) (n boot : Int) (hn : I64 n) (hb : I64 boot) :
    Calls Try.prog 9 #[.int .i64 n, .int .i64 boot] w fun e w' => ∃ q, e = .returned (.pointer (some ⟨q, 0, none⟩)) ∧ Held A PCell w0 w' p D q (newC n boot) bs :=
  (h.swap.pNew1 hA n boot hn hb).mono fun _ _ ⟨q, h1, h2⟩ => ⟨q, h1, h2.swap⟩
theorem Held.qNew2 {x : Nat} {X0 : Ce} (hA : Lawful A) (h : Held A Nobody w0 w p D x X0 bs) (n boot : Int) :
    Calls Try.prog 10 #[.int .i64 n, .int .i64 boot] w fun e w' => ∃ q, e = .returned (.pointer (some ⟨q, 0, none⟩)) ∧ Held A QCell w0 w' p D q (newC n boot) bs :=
  (qnew_any n boot w).mono fun _ _ ⟨q, _, h1, h2, h3, h4⟩ => ⟨q, h1, (h.swap.made hA (A := QCell) h2 h3 h4).swap⟩
end
end Go.Proofs.Ytbbogkmibiealaa
