/-
  Two objects of whatever kinds beside each other, and blocks of the caller's own beside them: what a call of one of them leaves of all of it.
-/

import Derived.Test.YtbbogkmibiealaaBase
namespace Go.Proofs.Ytbbogkmibiealaa
open Go.RowKit

theorem new_at (w : World) (o : Obj) : (w.alloc o).heap[w.heap.size]? = some o := by
  show (w.heap.push o)[w.heap.size]? = _
  rw [Array.getElem?_push, if_pos rfl]

/-- Beside the blocks R the world W' is as W was. -/
structure Beside (R : Nat → Prop) (W W' : World) : Prop where
  os : W'.os = W.os
  tape : W'.tape = W.tape
  output : W'.output = W.output
  size : W.heap.size ≤ W'.heap.size
  block : ∀ b, b < W.heap.size → ¬ R b → W'.heap[b]? = W.heap[b]?
theorem Beside.of_below {R : Nat → Prop} {W W' : World} (h : Below W.heap.size W W') : Beside R W W' := ⟨h.os, h.tape, h.output, h.size, fun b hb _ => h.block b hb⟩
theorem Beside.trans {R Q : Nat → Prop} {A B C : World} (h : Beside R A B) (k : Beside Q B C) (hQ : ∀ b, Q b → b < A.heap.size → R b) : Beside R A C :=
  ⟨k.os.trans h.os, k.tape.trans h.tape, k.output.trans h.output, Nat.le_trans h.size k.size, fun b hb hr => (k.block b (Nat.lt_of_lt_of_le hb h.size) (fun hq => hr (hQ b hq hb))).trans (h.block b hb hr)⟩
theorem Beside.grown {R : Nat → Prop} {A B : World} {row : Option Nat} (h : A.grownBy B row) (hr : ∀ b, row = some b → b < A.heap.size → R b) : Beside R A B :=
  ⟨h.os, h.tape, h.output, h.size, fun b hb hn => h.block b hb (fun e => hn (hr b e.symm hb))⟩
theorem Beside.set {R : Nat → Prop} (W : World) {a : Addr} (u : Value) (h : R a.block) : Beside R W (W.setCell a u) :=
  ⟨rfl, rfl, rfl, by simp [World.setCell], fun b _ hn => Below.heap_setCell _ _ _ b (fun e => hn (e ▸ h))⟩
theorem Beside.below {R : Nat → Prop} {n : Nat} {W0 W W' : World} (h : Beside R W W') (hb : Below n W0 W) (hn : n ≤ W.heap.size) (hR : ∀ b, R b → n ≤ b) : Below n W0 W' :=
  hb.trans ⟨h.os, h.tape, h.output, h.size, fun k hk => h.block k (by omega) (fun hr => by have := hR k hr; omega)⟩

/-- A kind of object: what a world says of block p: that it is the object D, whose blocks are R. -/
abbrev Kind (X : Type) := World → Nat → X → (Nat → Prop) → Prop
structure Lawful {X : Type} (A : Kind X) : Prop where
  lt : ∀ {w p D R}, A w p D R → ∀ b, R b → b < w.heap.size
  keep : ∀ {w w' p D R}, A w p D R → w.heap.size ≤ w'.heap.size → (∀ b, R b → w'.heap[b]? = w.heap[b]?) → A w' p D R
/-- No object. -/
def Nobody {X : Type} : Kind X := fun _ _ _ R => ∀ b, ¬ R b
theorem nobody_law {X : Type} : Lawful (Nobody (X := X)) := ⟨fun h b hb => absurd hb (h b), fun h _ _ => h⟩
/-- What a call that turns the disk leaves. -/
def Turn {X : Type} (A : Kind X) (w w' : World) (p : Nat) (D : X) (R : Nat → Prop) : Prop :=
  ∃ R', A w' p D R' ∧ Beside R w w' ∧ ∀ b, R' b → R b ∨ w.heap.size ≤ b

structure HeldR {X Y : Type} (A : Kind X) (B : Kind Y) (w0 w : World) (p : Nat) (D : X) (q : Nat) (E : Y) (bs : List (Nat × Obj)) (R Q : Nat → Prop) : Prop where
  a : A w p D R
  b : B w q E Q
  ne : ∀ b, R b → ¬ Q b
  ra : ∀ b, R b → w0.heap.size ≤ b
  qa : ∀ b, Q b → w0.heap.size ≤ b
  own : ∀ x ∈ bs, w.heap[x.1]? = some x.2 ∧ ¬ R x.1 ∧ ¬ Q x.1 ∧ w0.heap.size ≤ x.1
  nd : bs.Pairwise (fun x y => x.1 ≠ y.1)
  below : Below w0.heap.size w0 w
def Held {X Y : Type} (A : Kind X) (B : Kind Y) (w0 w : World) (p : Nat) (D : X) (q : Nat) (E : Y) (bs : List (Nat × Obj)) : Prop := ∃ R Q, HeldR A B w0 w p D q E bs R Q

section
variable {X Y : Type} {A : Kind X} {B : Kind Y} {w0 w w' : World} {p q : Nat} {D D' : X} {E E' : Y} {bs : List (Nat × Obj)}
theorem Held.start (w0 : World) (D : X) (E : Y) : Held Nobody Nobody w0 w0 0 D 0 E [] :=
  ⟨fun _ => False, fun _ => False, fun _ h => h, fun _ h => h, fun _ h => h.elim, fun _ h => h.elim, fun _ h => h.elim, by simp, List.Pairwise.nil, Below.refl _ _⟩
theorem Held.swap (h : Held A B w0 w p D q E bs) : Held B A w0 w q E p D bs := by
  obtain ⟨R, Q, h⟩ := h
  exact ⟨Q, R, h.b, h.a, fun b hq hr => h.ne b hr hq, h.qa, h.ra, fun x hx => ⟨(h.own x hx).1, (h.own x hx).2.2.1, (h.own x hx).2.1, (h.own x hx).2.2.2⟩, h.nd, h.below⟩
theorem Held.to (h : Held A B w0 w p D q E bs) : Below w0.heap.size w0 w := by obtain ⟨R, Q, h⟩ := h; exact h.below
theorem Held.size (h : Held A B w0 w p D q E bs) : w0.heap.size ≤ w.heap.size := h.to.size
theorem Held.below (hA : Lawful A) (hB : Lawful B) (h : Held A B w0 w p D q E bs) (hb : Below w.heap.size w w') : Held A B w0 w' p D q E bs := by
  obtain ⟨R, Q, h⟩ := h
  refine ⟨R, Q, hA.keep h.a hb.size fun b hr => hb.block b (hA.lt h.a b hr), hB.keep h.b hb.size fun b hr => hb.block b (hB.lt h.b b hr), h.ne, h.ra, h.qa, fun x hx => ?_, h.nd, h.below.trans (hb.mono h.below.size)⟩
  obtain ⟨h1, h2⟩ := h.own x hx
  exact ⟨(hb.block x.1 (Array.getElem?_eq_some_iff.1 h1).1).trans h1, h2⟩
theorem HeldR.turn {R Q : Nat → Prop} (hB : Lawful B) (h : HeldR A B w0 w p D q E bs R Q) (ht : Turn A w w' p D' R) : Held A B w0 w' p D' q E bs := by
  obtain ⟨R', h1, h2, h3⟩ := ht
  have hz := h.below.size
  refine ⟨R', Q, h1, hB.keep h.b h2.size fun b hq => h2.block b (hB.lt h.b b hq) (fun hr => h.ne b hr hq), fun b hr hq => ?_, fun b hr => ?_, h.qa, fun x hx => ?_, h.nd, h2.below h.below hz h.ra⟩
  · rcases h3 b hr with hr | hr
    · exact h.ne b hr hq
    · have := hB.lt h.b b hq; omega
  · rcases h3 b hr with hr | hr
    · exact h.ra b hr
    · omega
  · obtain ⟨k1, k2, k3, k4⟩ := h.own x hx
    have hl := (Array.getElem?_eq_some_iff.1 k1).1
    refine ⟨(h2.block x.1 hl k2).trans k1, fun hr => ?_, k3, k4⟩
    rcases h3 _ hr with hr | hr
    · exact k2 hr
    · omega
theorem Held.drew (hA : Lawful A) (hB : Lawful B) (h : Held A B w0 w p D q E bs) : Held A B w0 w.drew p D q E bs := h.below hA hB (Below.refl _ w).drew
/-- A call that turns the first disk; the second one. -/
theorem Held.call {P : Program} {f : FuncId} {args : Array Value} {v : Value} (hB : Lawful B) (h : Held A B w0 w p D q E bs) (hc : ∀ R Q, HeldR A B w0 w p D q E bs R Q → Calls P f args w fun e w' => e = .returned v ∧ Turn A w w' p D' R) : Calls P f args w fun e w' => e = .returned v ∧ Held A B w0 w' p D' q E bs := by
  obtain ⟨R, Q, h⟩ := h
  exact (hc R Q h).mono fun e w' ⟨h1, h2⟩ => ⟨h1, h.turn hB h2⟩
theorem Held.call2 {P : Program} {f : FuncId} {args : Array Value} {v : Value} (hA : Lawful A) (h : Held A B w0 w p D q E bs) (hc : ∀ Q R, HeldR B A w0 w q E p D bs Q R → Calls P f args w fun e w' => e = .returned v ∧ Turn B w w' q E' Q) : Calls P f args w fun e w' => e = .returned v ∧ Held A B w0 w' p D q E' bs :=
  (h.swap.call hA hc).mono fun _ _ ⟨h1, h2⟩ => ⟨h1, h2.swap⟩
/-- A call that reads the first disk; the second one. -/
theorem Held.read {P : Program} {f : FuncId} {args : Array Value} {Z : Ending → World → Prop} (hA : Lawful A) (hB : Lawful B) (h : Held A B w0 w p D q E bs) (hc : ∀ R, A w p D R → Calls P f args w fun e w' => Z e w' ∧ Below w.heap.size w w') : Calls P f args w fun e w' => Z e w' ∧ Below w.heap.size w w' ∧ Held A B w0 w' p D q E bs := by
  obtain ⟨R, Q, h⟩ := h
  exact (hc R h.a).mono fun e w' ⟨h1, h2⟩ => ⟨h1, h2, Held.below hA hB ⟨R, Q, h⟩ h2⟩
theorem Held.read2 {P : Program} {f : FuncId} {args : Array Value} {Z : Ending → World → Prop} (hA : Lawful A) (hB : Lawful B) (h : Held A B w0 w p D q E bs) (hc : ∀ Q, B w q E Q → Calls P f args w fun e w' => Z e w' ∧ Below w.heap.size w w') : Calls P f args w fun e w' => Z e w' ∧ Below w.heap.size w w' ∧ Held A B w0 w' p D q E bs :=
  (h.swap.read hB hA hc).mono fun _ _ ⟨h1, h2, h3⟩ => ⟨h1, h2, h3.swap⟩
/-- A new disk in the place of none. -/
theorem Held.made {x : Nat} {X0 : X} (hB : Lawful B) (h : Held Nobody B w0 w x X0 q E bs) {R' : Nat → Prop} (h1 : A w' p D R') (hr : ∀ b, R' b → w.heap.size ≤ b) (hb : Below w.heap.size w w') : Held A B w0 w' p D q E bs := by
  obtain ⟨R, Q, h⟩ := h
  have hz := h.below.size
  refine ⟨R', Q, h1, hB.keep h.b hb.size fun b hq => hb.block b (hB.lt h.b b hq), fun b k1 k2 => ?_, fun b k => Nat.le_trans hz (hr b k), h.qa, fun x hx => ?_, h.nd, h.below.trans (hb.mono hz)⟩
  · have := hr b k1; have := hB.lt h.b b k2; omega
  · obtain ⟨k1, k2, k3, k4⟩ := h.own x hx
    have hl := (Array.getElem?_eq_some_iff.1 k1).1
    exact ⟨(hb.block x.1 hl).trans k1, fun hr' => by have := hr _ hr'; omega, k3, k4⟩
/-- A block of the caller's own. -/
theorem Held.push (hA : Lawful A) (hB : Lawful B) (h : Held A B w0 w p D q E bs) (o : Obj) : Held A B w0 (w.alloc o) p D q E ((w.heap.size, o) :: bs) := by
  have hk := h.below hA hB ((Below.refl w.heap.size w).alloc (Nat.le_refl _) o)
  have hz := h.size
  obtain ⟨R, Q, g⟩ := h
  have hb := (Below.refl w.heap.size w).alloc (Nat.le_refl _) o
  refine ⟨R, Q, hA.keep g.a hb.size fun b hr => hb.block b (hA.lt g.a b hr), hB.keep g.b hb.size fun b hr => hb.block b (hB.lt g.b b hr), g.ne, g.ra, g.qa, fun x hx => ?_, ?_, g.below.trans (hb.mono hz)⟩
  · rcases List.mem_cons.1 hx with rfl | hx
    · exact ⟨new_at w o, fun hr => by have := hA.lt g.a _ hr; dsimp only at this; omega, fun hr => by have := hB.lt g.b _ hr; dsimp only at this; omega, hz⟩
    · obtain ⟨h1, h2⟩ := g.own x hx
      exact ⟨(hb.block x.1 (Array.getElem?_eq_some_iff.1 h1).1).trans h1, h2⟩
  · refine List.pairwise_cons.2 ⟨fun x hx e => ?_, g.nd⟩
    have := (Array.getElem?_eq_some_iff.1 (g.own x hx).1).1
    dsimp only at e; omega
theorem Held.dn (hA : Lawful A) (hB : Lawful B) (h : Held A B w0 w p D q E bs) (n : Nat) : Held A B w0 (w.drewN n) p D q E bs := h.below hA hB ((Below.refl _ w).trans ⟨rfl, rfl, rfl, Nat.le_refl _, fun _ _ => rfl⟩)
/-- A block that was made since. -/
theorem Held.adopt (hA : Lawful A) (hB : Lawful B) (h : Held A B w0 w p D q E bs) (hb : Below w.heap.size w w') {g : Nat} {o : Obj} (hg : w.heap.size ≤ g) (ho : w'.heap[g]? = some o) : Held A B w0 w' p D q E ((g, o) :: bs) := by
  have hz := h.size
  obtain ⟨R, Q, f⟩ := h
  refine ⟨R, Q, hA.keep f.a hb.size fun b hr => hb.block b (hA.lt f.a b hr), hB.keep f.b hb.size fun b hr => hb.block b (hB.lt f.b b hr), f.ne, f.ra, f.qa, fun x hx => ?_, ?_, f.below.trans (hb.mono hz)⟩
  · rcases List.mem_cons.1 hx with rfl | hx
    · exact ⟨ho, fun hr => by have := hA.lt f.a _ hr; dsimp only at this; omega, fun hr => by have := hB.lt f.b _ hr; dsimp only at this; omega, Nat.le_trans hz hg⟩
    · obtain ⟨h1, h2⟩ := f.own x hx
      exact ⟨(hb.block x.1 (Array.getElem?_eq_some_iff.1 h1).1).trans h1, h2⟩
  · refine List.pairwise_cons.2 ⟨fun x hx e => ?_, f.nd⟩
    have := (Array.getElem?_eq_some_iff.1 (f.own x hx).1).1
    dsimp only at e; omega
/-- Blocks that are forgotten. -/
theorem Held.less {cs : List (Nat × Obj)} (h : Held A B w0 w p D q E bs) (hs : cs.Sublist bs) : Held A B w0 w p D q E cs := by
  obtain ⟨R, Q, h⟩ := h
  exact ⟨R, Q, h.a, h.b, h.ne, h.ra, h.qa, fun x hx => h.own x (hs.subset hx), h.nd.sublist hs, h.below⟩
theorem Held.pop {x : Nat × Obj} (h : Held A B w0 w p D q E (x :: bs)) : Held A B w0 w p D q E bs := h.less (List.sublist_cons_self x bs)
theorem Held.perm {cs : List (Nat × Obj)} (h : Held A B w0 w p D q E bs) (hp : bs.Perm cs) : Held A B w0 w p D q E cs := by
  obtain ⟨R, Q, h⟩ := h
  exact ⟨R, Q, h.a, h.b, h.ne, h.ra, h.qa, fun x hx => h.own x (hp.mem_iff.2 hx), hp.pairwise h.nd (fun h => Ne.symm h), h.below⟩
theorem Held.own (h : Held A B w0 w p D q E bs) {g : Nat} {o : Obj} (hx : (g, o) ∈ bs) : w.heap[g]? = some o := by obtain ⟨R, Q, h⟩ := h; exact (h.own _ hx).1
/-- A cell of the first block of the caller's own is written. -/
theorem Held.set {g : Nat} {cs : Array Value} {t : TypeId} {fz : Nat × Nat} (hA : Lawful A) (hB : Lawful B) (h : Held A B w0 w p D q E ((g, .cells cs t fz) :: bs)) (i : Nat) (u : Value) : Held A B w0 (w.setCell ⟨g, i, none⟩ u) p D q E ((g, .cells (cs.setIfInBounds i u) t fz) :: bs) := by
  obtain ⟨R, Q, h⟩ := h
  obtain ⟨g1, g2, g3, g4⟩ := h.own _ (List.mem_cons_self ..)
  dsimp only at g1 g2 g3 g4
  have hs : ∀ b, b ≠ g → (w.setCell ⟨g, i, none⟩ u).heap[b]? = w.heap[b]? := fun b hb => Below.heap_setCell _ _ _ b hb
  have hz : w.heap.size ≤ (w.setCell ⟨g, i, none⟩ u).heap.size := by simp [World.setCell]
  refine ⟨R, Q, hA.keep h.a hz fun b hr => hs b (fun e => g2 (e ▸ hr)), hB.keep h.b hz fun b hr => hs b (fun e => g3 (e ▸ hr)), h.ne, h.ra, h.qa, fun x hx => ?_, ?_, h.below.setCell g4 u⟩
  · rcases List.mem_cons.1 hx with rfl | hx
    · refine ⟨?_, g2, g3, g4⟩
      simp [World.setCell, Array.getElem?_modify, g1]
    · obtain ⟨h1, h2⟩ := h.own x (List.mem_cons_of_mem _ hx)
      exact ⟨(hs x.1 (fun e => (List.pairwise_cons.1 h.nd).1 x hx e.symm)).trans h1, h2⟩
  · exact List.pairwise_cons.2 ⟨fun x hx => (List.pairwise_cons.1 h.nd).1 x hx, (List.pairwise_cons.1 h.nd).2⟩
/-- A cell of some block of the caller's own is written. -/
theorem Held.setIn {pre post : List (Nat × Obj)} {g : Nat} {cs : Array Value} {t : TypeId} {fz : Nat × Nat} (hA : Lawful A) (hB : Lawful B) (h : Held A B w0 w p D q E (pre ++ (g, .cells cs t fz) :: post)) (i : Nat) (u : Value) : Held A B w0 (w.setCell ⟨g, i, none⟩ u) p D q E (pre ++ (g, .cells (cs.setIfInBounds i u) t fz) :: post) :=
  ((h.perm List.perm_middle).set hA hB i u).perm List.perm_middle.symm
end

/-- THE SLICE AT a HOLDS THESE NUMBERS, in a block that is none of R. -/
def KeepAt (W : World) (R : Nat → Prop) (a : Option Addr) (len : Nat) (l : List Int) : Prop :=
  l.length = len ∧ ∃ b off, (len = 0 ∨ a = some ⟨b, off, none⟩) ∧ ∀ i (h : i < l.length), b < W.heap.size ∧ ¬ R b ∧ W.cell? ⟨b, off + i, none⟩ = some (.int .i64 l[i]) ∧ I64 l[i]
/-- THE SLICE AT a HOLDS THESE NUMBERS, in a block below B. -/
def KeepB (B : Nat) (W : World) (a : Option Addr) (len : Nat) (l : List Int) : Prop :=
  l.length = len ∧ ∃ b off, (len = 0 ∨ a = some ⟨b, off, none⟩) ∧ ∀ i (h : i < l.length), b < B ∧ W.cell? ⟨b, off + i, none⟩ = some (.int .i64 l[i]) ∧ I64 l[i]
theorem KeepB.below {B : Nat} {W W' : World} {a : Option Addr} {len : Nat} {l : List Int} (h : KeepB B W a len l) (hb : Below B W W') : KeepB B W' a len l := by
  obtain ⟨h0, b, off, h1, h2⟩ := h
  refine ⟨h0, b, off, h1, fun i hi => ?_⟩
  obtain ⟨k1, k2, k3⟩ := h2 i hi
  exact ⟨k1, (hb.cell (p := ⟨b, off + i, none⟩) k1).trans k2, k3⟩
theorem KeepB.at {W0 W : World} {R : Nat → Prop} {a : Option Addr} {len : Nat} {l : List Int} (h : KeepB W0.heap.size W0 a len l) (hb : Below W0.heap.size W0 W) (hR : ∀ b, R b → W0.heap.size ≤ b) : KeepAt W R a len l := by
  obtain ⟨h0, b, off, h1, h2⟩ := h.below hb
  refine ⟨h0, b, off, h1, fun i hi => ?_⟩
  obtain ⟨k1, k2, k3⟩ := h2 i hi
  exact ⟨Nat.lt_of_lt_of_le k1 hb.size, fun hr => by have := hR b hr; omega, k2, k3⟩
theorem KeepAt.nil (W : World) (R : Nat → Prop) : KeepAt W R none 0 [] := ⟨rfl, 0, 0, .inl rfl, fun i hi => by simp at hi⟩
theorem KeepAt.one {W : World} {R : Nat → Prop} {g : Nat} {t : TypeId} {x : Int} (h : W.heap[g]? = some (.cells #[.int .i64 x] t (0, 0))) (hR : ¬ R g) (hx : I64 x) : KeepAt W R (some ⟨g, 0, none⟩) 1 [x] :=
  ⟨rfl, g, 0, .inr rfl, fun i hi => by
    obtain rfl : i = 0 := by simpa using hi
    exact ⟨(Array.getElem?_eq_some_iff.1 h).1, hR, by simp [World.cell?, h], hx⟩⟩
end Go.Proofs.Ytbbogkmibiealaa
