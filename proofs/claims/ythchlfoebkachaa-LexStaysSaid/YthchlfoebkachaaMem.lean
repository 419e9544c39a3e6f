/-
  How networks, flows and sides lie in memory.
-/
import Derived.RangeFuncNested
import Derived.RangeFuncBound
import Derived.RangeFuncCalls
import Derived.RangeFuncLeaves
import Derived.Shelf.Abstract
import Derived.Shelf.RegionOpen
import Derived.OwnWalkIn
import Derived.TacticsInMore
import Derived.LoopNIn
import Derived.LoopIn
import Derived.Maps.AppendAt
import Derived.Laws.MakeOwn
import Derived.Laws.OwnMore
import Derived.Test.YthchlfoebkachaaBase
import Derived.Test.YthchlfoebkachaaRound
import Derived.Test.YthchlfoebkachaaMath
namespace Go.Proofs.Ythchlfoebkachaa
open Go.RowKit Gm

/-- THE SLICE AT a HOLDS THE EDGES es, in a block below B. -/
def EdgesAt (B : Nat) (W : World) (a : Option Addr) (es : List E) : Prop :=
  ∃ b off, (es.length = 0 ∨ a = some ⟨b, off, none⟩) ∧ ∀ i (h : i < es.length), b < B ∧ W.cell? ⟨b, off + i * 3, none⟩ = some (.int .i64 es[i].1) ∧ W.cell? ⟨b, off + i * 3 + 1, none⟩ = some (.int .i64 es[i].2.1) ∧ W.cell? ⟨b, off + i * 3 + 2, none⟩ = some (.int .i64 es[i].2.2)
theorem EdgesAt.below {B : Nat} {W W' : World} {a : Option Addr} {es : List E} (h : EdgesAt B W a es) (hb : Below B W W') : EdgesAt B W' a es := by
  obtain ⟨b, off, h0, h1⟩ := h
  refine ⟨b, off, h0, fun i hi => ?_⟩
  obtain ⟨hl, c0, c1, c2⟩ := h1 i hi
  exact ⟨hl, (hb.cell (p := ⟨b, off + i * 3, none⟩) hl).trans c0, (hb.cell (p := ⟨b, off + i * 3 + 1, none⟩) hl).trans c1, (hb.cell (p := ⟨b, off + i * 3 + 2, none⟩) hl).trans c2⟩
theorem EdgesAt.more {B B' : Nat} {W : World} {a : Option Addr} {es : List E} (h : EdgesAt B W a es) (hb : B ≤ B') : EdgesAt B' W a es := by
  obtain ⟨b, off, h0, h1⟩ := h
  exact ⟨b, off, h0, fun i hi => ⟨Nat.lt_of_lt_of_le (h1 i hi).1 hb, (h1 i hi).2⟩⟩

/-- THE SLICE AT a HOLDS THE VALUES vs, one cell each, in a block below B. -/
def ValsAt (B : Nat) (W : World) (a : Option Addr) (vs : List Value) : Prop :=
  ∃ b off, (vs.length = 0 ∨ a = some ⟨b, off, none⟩) ∧ ∀ i (h : i < vs.length), b < B ∧ W.cell? ⟨b, off + i, none⟩ = some vs[i]
theorem ValsAt.below {B : Nat} {W W' : World} {a : Option Addr} {vs : List Value} (h : ValsAt B W a vs) (hb : Below B W W') : ValsAt B W' a vs := by
  obtain ⟨b, off, h0, h1⟩ := h
  refine ⟨b, off, h0, fun i hi => ?_⟩
  obtain ⟨hl, c0⟩ := h1 i hi
  exact ⟨hl, (hb.cell (p := ⟨b, off + i, none⟩) hl).trans c0⟩
theorem ValsAt.more {B B' : Nat} {W : World} {a : Option Addr} {vs : List Value} (h : ValsAt B W a vs) (hb : B ≤ B') : ValsAt B' W a vs := by
  obtain ⟨b, off, h0, h1⟩ := h
  exact ⟨b, off, h0, fun i hi => ⟨Nat.lt_of_lt_of_le (h1 i hi).1 hb, (h1 i hi).2⟩⟩
abbrev ints (l : List Int) : List Value := l.map (Value.int .i64)
abbrev bools (l : List Bool) : List Value := l.map Value.bool
theorem ValsAt.int {B : Nat} {W : World} {a : Option Addr} {l : List Int} (h : ValsAt B W a (ints l)) : ∃ b off, (l.length = 0 ∨ a = some ⟨b, off, none⟩) ∧ ∀ i (_ : i < l.length), b < B ∧ W.cell? ⟨b, off + i, none⟩ = some (.int .i64 (l[i]?.getD 0)) := by
  obtain ⟨b, off, h0, h1⟩ := h
  refine ⟨b, off, by simpa using h0, fun i hi => ?_⟩
  have := h1 i (by simpa using hi)
  simpa [hi] using this
theorem ValsAt.bool {B : Nat} {W : World} {a : Option Addr} {l : List Bool} (h : ValsAt B W a (bools l)) : ∃ b off, (l.length = 0 ∨ a = some ⟨b, off, none⟩) ∧ ∀ i (_ : i < l.length), b < B ∧ W.cell? ⟨b, off + i, none⟩ = some (.bool (l[i]?.getD false)) := by
  obtain ⟨b, off, h0, h1⟩ := h
  refine ⟨b, off, by simpa using h0, fun i hi => ?_⟩
  have := h1 i (by simpa using hi)
  simpa [hi] using this

/-- A network as a value. -/
abbrev netV (n : Int) (a : Option Addr) (len cap : Nat) : Value := .agg #[.int .i64 n, .slice a len cap]
/-- THE NETWORK (n, es), its edges at a, in a block below B. -/
def NetAt (B : Nat) (W : World) (a : Option Addr) (len : Nat) (es : List E) : Prop := es.length = len ∧ len ≤ 5864062014805 ∧ EdgesAt B W a es
theorem NetAt.below {B : Nat} {W W' : World} {a : Option Addr} {len : Nat} {es : List E} (h : NetAt B W a len es) (hb : Below B W W') : NetAt B W' a len es := ⟨h.1, h.2.1, h.2.2.below hb⟩
theorem NetAt.more {B B' : Nat} {W : World} {a : Option Addr} {len : Nat} {es : List E} (h : NetAt B W a len es) (hb : B ≤ B') : NetAt B' W a len es := ⟨h.1, h.2.1, h.2.2.more hb⟩
def FlowAt (B : Nat) (W : World) (a : Option Addr) (len : Nat) (fl : List Int) : Prop := fl.length = len ∧ len ≤ 17592186044416 ∧ ValsAt B W a (ints fl)
theorem FlowAt.below {B : Nat} {W W' : World} {a : Option Addr} {len : Nat} {fl : List Int} (h : FlowAt B W a len fl) (hb : Below B W W') : FlowAt B W' a len fl := ⟨h.1, h.2.1, h.2.2.below hb⟩
theorem FlowAt.more {B B' : Nat} {W : World} {a : Option Addr} {len : Nat} {fl : List Int} (h : FlowAt B W a len fl) (hb : B ≤ B') : FlowAt B' W a len fl := ⟨h.1, h.2.1, h.2.2.more hb⟩
def SideAt (B : Nat) (W : World) (a : Option Addr) (len : Nat) (r : List Bool) : Prop := r.length = len ∧ len ≤ 140737488355328 ∧ ValsAt B W a (bools r)
theorem SideAt.below {B : Nat} {W W' : World} {a : Option Addr} {len : Nat} {r : List Bool} (h : SideAt B W a len r) (hb : Below B W W') : SideAt B W' a len r := ⟨h.1, h.2.1, h.2.2.below hb⟩
theorem SideAt.more {B B' : Nat} {W : World} {a : Option Addr} {len : Nat} {r : List Bool} (h : SideAt B W a len r) (hb : B ≤ B') : SideAt B' W a len r := ⟨h.1, h.2.1, h.2.2.more hb⟩

theorem infoInt : (Try.prog.info? 3).map (fun i => (i.zero, i.size, i.bytes)) = some (some (.int .i64 0), 1, 8) := by kernel_rfl
theorem infoBool : (Try.prog.info? 4).map (fun i => (i.zero, i.size, i.bytes)) = some (some (.bool false), 1, 1) := by kernel_rfl
theorem made_rep (z : Value) (n : Nat) : madeCells #[z] n = Array.replicate n z := by
  apply Array.toList_inj.1
  rw [toList_madeCells_one]; simp
theorem make_ints (n : Nat) (h : n ≤ 35184372088832) (w : World) : (Instr.makeSlice 25 (.int .i64 (n : Int)) (.int .i64 (n : Int))).run Try.prog w = .ok (.slice (some ⟨w.heap.size, 0, none⟩) n n) (w.alloc (.cells (Array.replicate n (.int .i64 0)) 3)) := by
  obtain ⟨i0, hi, hz0, hz1, hz2⟩ := info_parts infoInt
  have := run_make (P := Try.prog) w 25 3 i0 (.int .i64 0) Try.underlying25 hi hz0 .i64 .i64 (n : Int) (n : Int) (by omega) (Int.le_refl _) (by rw [hz2]; omega) (by omega)
  rw [hz1] at this
  simpa [Value.cells, made_rep] using this
theorem make_bools (n : Nat) (h : n ≤ 281474976710656) (w : World) : (Instr.makeSlice 58 (.int .i64 (n : Int)) (.int .i64 (n : Int))).run Try.prog w = .ok (.slice (some ⟨w.heap.size, 0, none⟩) n n) (w.alloc (.cells (Array.replicate n (.bool false)) 4)) := by
  obtain ⟨i0, hi, hz0, hz1, hz2⟩ := info_parts infoBool
  have := run_make (P := Try.prog) w 58 4 i0 (.bool false) Try.underlying58 hi hz0 .i64 .i64 (n : Int) (n : Int) (by omega) (Int.le_refl _) (by rw [hz2]; omega) (by omega)
  rw [hz1] at this
  simpa [Value.cells, made_rep] using this

/-- An edge as a value; an edge with its place. -/
abbrev edgeV (e : E) : Value := .agg #[.int .i64 e.1, .int .i64 e.2.1, .int .i64 e.2.2]
abbrev At := Nat × E
abbrev atV (x : At) : Array Value := #[.int .i64 (x.1 : Int), edgeV x.2]
def placed (es : List E) : List At := (List.range es.length).zip es
theorem placed_length (es : List E) : (placed es).length = es.length := by simp [placed]
theorem placed_take (es : List E) (k : Nat) (h : k < es.length) : (placed es).take (k + 1) = (placed es).take k ++ [(k, es[k])] := by
  rw [List.take_succ_eq_append_getElem (by rw [placed_length]; exact h)]
  simp [placed]
/-- An edge of es with its place. -/
abbrev AtOf (es : List E) := { x : At // es[x.1]? = some x.2 }
def bare {es : List E} (l : List (AtOf es)) : List At := l.map (·.1)
theorem bare_snoc {es : List E} (l : List (AtOf es)) (x : AtOf es) : bare (l ++ [x]) = bare l ++ [x.1] := by simp [bare]
theorem AtOf.lt {es : List E} (x : AtOf es) : x.1.1 < es.length := by
  have := x.2
  rcases Nat.lt_or_ge x.1.1 es.length with h | h
  · exact h
  · rw [List.getElem?_eq_none h] at this; cases this
theorem AtOf.mem {es : List E} (x : AtOf es) : x.1.2 ∈ es := by
  have := x.2
  rw [List.getElem?_eq_getElem x.lt] at this
  have e : es[x.1.1]'x.lt = x.1.2 := by simpa using this
  rw [← e]; exact List.getElem_mem _

/-- A BLOCK THAT IS KNOWN WHOLE. -/
def Blk (W : World) (g : Nat) (t : TypeId) (cs : Array Value) : Prop := W.heap[g]? = some (.cells cs t (0, 0))
theorem Blk.lt {W : World} {g : Nat} {t : TypeId} {cs : Array Value} (h : Blk W g t cs) : g < W.heap.size := (Array.getElem?_eq_some_iff.1 h).1
theorem Blk.cell {W : World} {g : Nat} {t : TypeId} {cs : Array Value} (h : Blk W g t cs) (i : Nat) : W.cell? ⟨g, i, none⟩ = cs[i]? := cell_of_row W g i cs t (0, 0) h
theorem Blk.frozen {W : World} {g : Nat} {t : TypeId} {cs : Array Value} (h : Blk W g t cs) (i : Nat) : W.frozen? ⟨g, i, none⟩ = false := by
  unfold Blk at h
  simp [World.frozen?, h]
theorem Blk.new (W : World) (t : TypeId) (cs : Array Value) : Blk (W.alloc (.cells cs t)) W.heap.size t cs := World.alloc_heap_new W _
theorem Blk.alloc {W : World} {g : Nat} {t : TypeId} {cs : Array Value} (h : Blk W g t cs) (o : Obj) : Blk (W.alloc o) g t cs := (Below.heap_alloc W o g h.lt).trans h
theorem Blk.set {W : World} {g : Nat} {t : TypeId} {cs : Array Value} (h : Blk W g t cs) (i : Nat) (u : Value) : Blk (W.setCell ⟨g, i, none⟩ u) g t (cs.setIfInBounds i u) := by
  unfold Blk at h ⊢
  simp [World.setCell, Array.getElem?_modify, h]
theorem Blk.far {W : World} {g : Nat} {t : TypeId} {cs : Array Value} (h : Blk W g t cs) {p : Addr} (hp : g ≠ p.block) (u : Value) : Blk (W.setCell p u) g t cs := (Below.heap_setCell W p u g hp).trans h
theorem Blk.below {B : Nat} {W W' : World} {g : Nat} {t : TypeId} {cs : Array Value} (h : Blk W g t cs) (hb : Below B W W') (hg : g < B) : Blk W' g t cs := (hb.block g hg).trans h
theorem Blk.kept {W W' : World} {row : Option Nat} {g : Nat} {t : TypeId} {cs : Array Value} (h : Blk W g t cs) (hb : W.grownBy W' row) (hg : some g ≠ row) : Blk W' g t cs := (hb.block g h.lt hg).trans h
theorem Blk.ne {W : World} {g g' : Nat} {t t' : TypeId} {cs cs' : Array Value} (h : Blk W g t cs) (h' : Blk W g' t' cs') (hne : t ≠ t') : g ≠ g' := by
  rintro rfl
  unfold Blk at h h'
  rw [h] at h'
  injection h' with h'
  injection h' with _ ht
  exact hne ht
theorem Blk.one {W : World} {g : Nat} {t : TypeId} {u : Value} (h : Blk W g t #[u]) : g < W.heap.size ∧ W.cell? ⟨g, 0, none⟩ = some u ∧ W.frozen? ⟨g, 0, none⟩ = false := ⟨h.lt, by rw [h.cell]; rfl, h.frozen 0⟩
theorem Blk.two {W : World} {g : Nat} {t : TypeId} {u v : Value} (h : Blk W g t #[u, v]) : g < W.heap.size ∧ W.cell? ⟨g, 0, none⟩ = some u ∧ W.cell? ⟨g, 1, none⟩ = some v := ⟨h.lt, by rw [h.cell]; rfl, by rw [h.cell]; rfl⟩
theorem Blk.three {W : World} {g : Nat} {t : TypeId} {u v x : Value} (h : Blk W g t #[u, v, x]) : g < W.heap.size ∧ W.cell? ⟨g, 0, none⟩ = some u ∧ W.cell? ⟨g, 1, none⟩ = some v ∧ W.cell? ⟨g, 2, none⟩ = some x := ⟨h.lt, by rw [h.cell]; rfl, by rw [h.cell]; rfl, by rw [h.cell]; rfl⟩
theorem ko_drewN (W : World) (n : Nat) : KeepsOthers W (W.drewN n) := ⟨Nat.le_refl _, fun _ _ h _ => h⟩
theorem below_drewN {B : Nat} {W W' : World} (h : Below B W W') (n : Nat) : Below B W (W'.drewN n) := h.trans ⟨rfl, rfl, rfl, Nat.le_refl _, fun _ _ => rfl⟩
theorem below_drew {B : Nat} {W W' : World} (h : Below B W W') : Below B W W'.drew := h.trans ⟨rfl, rfl, rfl, Nat.le_refl _, fun _ _ => rfl⟩
theorem Blk.drewN {W : World} {g : Nat} {t : TypeId} {cs : Array Value} (h : Blk W g t cs) (n : Nat) : Blk (W.drewN n) g t cs := h
theorem Blk.drew {W : World} {g : Nat} {t : TypeId} {cs : Array Value} (h : Blk W g t cs) : Blk W.drew g t cs := h
/-- What is said of a block of cells abides the turn of what is no cells. -/
theorem blk_own {β : Type} (g : Nat) (t : TypeId) (f : β → Array Value) : Own (fun s W => Blk W g t (f s)) := fun s X Y row hs hg hrow =>
  hs.kept hg (fun e' => by obtain ⟨o, ho, hc⟩ := hrow g e'.symm; rw [show X.heap[g]? = _ from hs] at ho; cases ho; cases hc)
theorem Blk.putObj {W : World} {g : Nat} {t : TypeId} {cs : Array Value} (h : Blk W g t cs) {l : Nat} {o : Obj} (o' : Obj) (hl : W.heap[l]? = some o) (ho : o.isCells = false) : Blk (W.putObj l o') g t cs :=
  h.kept (grownBy_putObj' W l o') (fun e => by
    obtain rfl : g = l := by simpa using e
    unfold Blk at h
    rw [h] at hl; cases hl; cases ho)
end Go.Proofs.Ythchlfoebkachaa
