/-
  The document's own disk: put.
-/
import Derived.Sort.Walk0
import Derived.Test.YtffpmcelelloeaaQat
namespace Go.Proofs.Ytffpmcelelloeaa
open Go.RowKit Gm

namespace Gm
/-- Has the file been put, behind the first i? What is out then. -/
def ptN (l : List Fl) (f : Fl) (i : Nat) : Bool := (l.take i).any (fun g => !decide (g.nm < f.nm))
def outN (l : List Fl) (f : Fl) (i : Nat) : List Fl := if ptN l f i then putF (l.take i) f else l.take i
theorem ptN_succ {l : List Fl} {f : Fl} {i : Nat} (h : i < l.length) : ptN l f (i + 1) = (ptN l f i || !decide (l[i].nm < f.nm)) := by
  unfold ptN
  rw [List.take_succ_eq_append_getElem h, List.any_append]; simp
theorem put_last {l : List Fl} {f x : Fl} (hp : ∃ g ∈ l, ¬ g.nm < f.nm) : putF (l ++ [x]) f = putF l f ++ [x] := by
  induction l with
  | nil => obtain ⟨g, hg, _⟩ := hp; cases hg
  | cons g l ih =>
    show (if g.nm < f.nm then g :: putF (l ++ [x]) f else if g.nm = f.nm then f :: (l ++ [x]) else f :: g :: (l ++ [x])) = (if g.nm < f.nm then g :: putF l f else if g.nm = f.nm then f :: l else f :: g :: l) ++ [x]
    by_cases e : g.nm < f.nm
    · rw [if_pos e, if_pos e, ih]
      · rfl
      · obtain ⟨y, hy, hn⟩ := hp
        rcases List.mem_cons.1 hy with rfl | hy
        · exact absurd e hn
        · exact ⟨y, hy, hn⟩
    · rw [if_neg e, if_neg e]
      split <;> rfl
theorem put_all {l m : List Fl} {f : Fl} (h : ∀ g ∈ l, g.nm < f.nm) : putF (l ++ m) f = l ++ putF m f := by
  induction l with
  | nil => rfl
  | cons g l ih =>
    show (if g.nm < f.nm then g :: putF (l ++ m) f else _) = _
    rw [if_pos (h g (by simp)), ih fun x hx => h x (by simp [hx])]; rfl
theorem ptN_false {l : List Fl} {f : Fl} {i : Nat} (h : ptN l f i = false) : ∀ g ∈ l.take i, g.nm < f.nm := by
  intro g hg
  unfold ptN at h
  rw [List.any_eq_false] at h
  have := h g hg
  simpa using this
/-- One file on. -/
theorem out_put {l : List Fl} (hr : Rise l) {f : Fl} {i : Nat} (h : i < l.length) (hp : ptN l f i = true) : ptN l f (i + 1) = true ∧ l[i].nm ≠ f.nm ∧ outN l f (i + 1) = outN l f i ++ [l[i]] := by
  have h1 : ptN l f (i + 1) = true := by rw [ptN_succ h, hp]; rfl
  obtain ⟨g, hg, hn⟩ := List.any_eq_true.1 hp
  have hn' : ¬ g.nm < f.nm := by simpa using hn
  have hlt : g.nm < l[i].nm := by
    obtain ⟨j, hj, rfl⟩ := List.getElem_of_mem hg
    have hj' : j < i := by rw [List.length_take] at hj; omega
    rw [List.getElem_take]
    exact List.pairwise_iff_getElem.1 hr j i (by omega) h hj'
  have hfx : f.nm < l[i].nm := by
    rcases bs_tri f.nm g.nm with e | e | e
    · exact bs_trans e hlt
    · rw [e]; exact hlt
    · exact absurd e hn'
  refine ⟨h1, fun e => bs_ne hfx e.symm, ?_⟩
  unfold outN
  rw [h1, hp, if_pos rfl, if_pos rfl, List.take_succ_eq_append_getElem h]
  exact put_last ⟨g, hg, hn'⟩
theorem out_less {l : List Fl} {f : Fl} {i : Nat} (h : i < l.length) (hp : ptN l f i = false) (hx : l[i].nm < f.nm) : ptN l f (i + 1) = false ∧ outN l f (i + 1) = outN l f i ++ [l[i]] := by
  have h1 : ptN l f (i + 1) = false := by rw [ptN_succ h, hp, decide_eq_true hx]; rfl
  refine ⟨h1, ?_⟩
  unfold outN
  rw [h1, hp]
  simp only [Bool.false_eq_true, if_false]
  exact List.take_succ_eq_append_getElem h
theorem out_same {l : List Fl} {f : Fl} {i : Nat} (h : i < l.length) (hp : ptN l f i = false) (hx : l[i].nm = f.nm) : ptN l f (i + 1) = true ∧ outN l f (i + 1) = outN l f i ++ [f] := by
  have h0 : ¬ l[i].nm < f.nm := by rw [hx]; exact bs_irr _
  have h1 : ptN l f (i + 1) = true := by rw [ptN_succ h, hp, decide_eq_false h0]; rfl
  refine ⟨h1, ?_⟩
  unfold outN
  rw [h1, hp, if_pos rfl, List.take_succ_eq_append_getElem h, put_all (ptN_false hp)]
  simp [putF, hx]
theorem out_more {l : List Fl} {f : Fl} {i : Nat} (h : i < l.length) (hp : ptN l f i = false) (hx : f.nm < l[i].nm) : ptN l f (i + 1) = true ∧ outN l f (i + 1) = outN l f i ++ [f] ++ [l[i]] := by
  have h0 : ¬ l[i].nm < f.nm := bs_asymm hx
  have h2 : ¬ l[i].nm = f.nm := fun e => bs_ne hx e.symm
  have h1 : ptN l f (i + 1) = true := by rw [ptN_succ h, hp, decide_eq_false h0]; rfl
  refine ⟨h1, ?_⟩
  unfold outN
  rw [h1, hp, if_pos rfl, List.take_succ_eq_append_getElem h, put_all (ptN_false hp)]
  simp [putF, h0, h2]
theorem out_end {l : List Fl} {f : Fl} : (ptN l f l.length = true → putF l f = outN l f l.length) ∧ (ptN l f l.length = false → putF l f = outN l f l.length ++ [f]) := by
  constructor
  · intro h
    unfold outN
    rw [if_pos h, List.take_length]
  · intro h
    have := put_all (m := []) (ptN_false h)
    rw [List.take_length, List.append_nil] at this
    unfold outN
    rw [h, this, List.take_length]; rfl
theorem out_len (l : List Fl) (f : Fl) (i : Nat) : (outN l f i).length ≤ l.length + 1 := by
  unfold outN
  split
  · have := put_len (l := l.take i) f
    rw [List.length_take] at this; omega
  · rw [List.length_take]; omega
end Gm
theorem cells_three (w : World) (x y z : Value) (t : TypeId) : ∀ j u, [x, y, z][j]? = some u → (w.alloc (.cells #[x, y, z] t)).cell? ((⟨w.heap.size, 0, none⟩ : Addr).add j) = some u := by
  intro j u hj
  have hadd : (⟨w.heap.size, 0, none⟩ : Addr).add j = ⟨w.heap.size, j, none⟩ := by unfold Addr.add; split <;> simp_all
  rw [hadd, cell_of_row _ _ _ _ _ _ (new_at w _)]
  simpa using hj
theorem less_S (x y : Bs) : Op.bytesLess (S x).toList (S y).toList = decide (x < y) := by rw [S_toList, S_toList, Go.Proofs.bytesLess_eq]

/-- Behind i files. -/
structure PutAt (w wr : World) (p : Nat) (v : Value) (D : Dk) (f : Fl) (i : Nat) (ov : Value) : Prop where
  q : QAt wr p v D
  box : wr.heap[w.heap.size]? = some (.cells #[.string (S f.nm), .string (S f.tx), .int .i64 (f.sy : Int)] 67 (0, 0))
  own : wr.ownsRow w.heap.size 67 3 ov (outN D.fs f i).length (filesV (outN D.fs f i))
  low : Below w.heap.size w wr
theorem PutAt.grown {w wr wr' : World} {p : Nat} {v : Value} {D : Dk} {f : Fl} {i j : Nat} {ov ov' : Value} (h : PutAt w wr p v D f i ov) (hq : QAt w p v D) (hg : Below w.heap.size wr wr') (hb : ov.ownBlock ≠ some w.heap.size → wr'.heap[w.heap.size]? = wr.heap[w.heap.size]?) (hne : ov.ownBlock ≠ some w.heap.size) (ho : wr'.ownsRow w.heap.size 67 3 ov' (outN D.fs f j).length (filesV (outN D.fs f j))) : PutAt w wr' p v D f j ov' :=
  ⟨hq.below (h.low.trans hg), (hb hne).trans h.box, ho, h.low.trans hg⟩
theorem box_at {w : World} {g : Nat} {f : Fl} (h : w.heap[g]? = some (.cells #[.string (S f.nm), .string (S f.tx), .int .i64 (f.sy : Int)] 67 (0, 0))) : w.cell? ⟨g, 0, none⟩ = some (.string (S f.nm)) ∧ w.cell? ⟨g, 1, none⟩ = some (.string (S f.tx)) ∧ w.cell? ⟨g, 2, none⟩ = some (.int .i64 (f.sy : Int)) ∧ g < w.heap.size :=
  ⟨by rw [cell_of_row _ _ _ _ _ _ h]; rfl, by rw [cell_of_row _ _ _ _ _ _ h]; rfl, by rw [cell_of_row _ _ _ _ _ _ h]; rfl, (Array.getElem?_eq_some_iff.1 h).1⟩
end Go.Proofs.Ytffpmcelelloeaa
