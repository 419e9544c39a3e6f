/-
  A network with an edge more: the numbers; a copy of edges that came in, appended to nil.
-/
import Derived.Test.YthchlfoebkachaaShare
import Derived.Test.YthchlfoebkachaaOwn
import Derived.Deep.AppendLies
import Derived.Laws.CopyOwn
import Derived.Test.YthchlfoebkachaaMix
namespace Go.Proofs.Ythchlfoebkachaa
open Go.RowKit Gm

namespace Gm
theorem fitEs_more {n : Int} {es : List E} (m : E) (h : es.length ≤ 39) : fitEs n (es.take (min es.length 39) ++ [m]) = fitEs n es ++ [fitE n m] := by
  have e1 : es.take (min es.length 39) = es := List.take_of_length_le (by omega)
  have e2 : (es ++ [m]).take 40 = es ++ [m] := List.take_of_length_le (by simp; omega)
  have e3 : es.take 40 = es := List.take_of_length_le (by omega)
  unfold fitEs
  rw [e1, e2, e3]; simp
theorem fitEs_full {n : Int} {es : List E} (m : E) (h : 40 ≤ es.length) : (fitEs n (es.take (min es.length 39) ++ [m])).length = 40 := by
  rw [fitEs_length]; simp; omega
theorem fits_more {n : Nat} {es : List E} {fl : List Int} {e : E} (h : GoodF n es fl) (hr : right n (es ++ [e]) = true) : fits n (es ++ [e]) (fl ++ [0]) = true := by
  refine fits_iff.2 ⟨hr, by simp [h.len], fun p hp => ?_⟩
  rw [List.zip_append (by rw [h.len])] at hp
  rcases List.mem_append.1 hp with hp | hp
  · exact h.fit p hp
  · obtain rfl : p = (e, 0) := by simpa using hp
    have := okE_iff.1 ((right_iff.1 hr).2.2.2 e (by simp))
    exact ⟨Int.le_refl _, by dsimp only; omega⟩
/-- Who is reached is reached with an edge more. -/
theorem reach_more {n : Nat} {es : List E} {fl : List Int} {e : E} {a b : List Bool} (h : GoodF n es fl) (ha : Reached n (es.zip fl) 0 a) (hb : Reached n ((es ++ [e]).zip (fl ++ [0])) 0 b) : ∀ x, 0 ≤ x → has a x = true → has b x = true := by
  refine ha.least (fun x => has b x = true) hb.first (fun p hp hx => hb.closed p ?_ hx)
  rw [List.zip_append (by rw [h.len])]
  unfold pairs at hp ⊢
  rw [List.flatMap_append]
  exact List.mem_append_left _ hp
theorem has_rep (n : Nat) (b : Bool) (x : Int) (h : x.toNat < n) : has (List.replicate n b) x = b := by
  unfold has
  rw [List.getElem?_replicate, if_pos h]; rfl
theorem cutSum_rep (n : Nat) (b : Bool) : ∀ es : List E, (∀ e ∈ es, e.1.toNat < n ∧ e.2.1.toNat < n) → cutSum (List.replicate n b) es = 0
  | [], _ => rfl
  | e :: es, h => by
    have h0 := h e (by simp)
    simp only [cutSum, has_rep n b _ h0.1, has_rep n b _ h0.2, cutSum_rep n b es (fun q hq => h q (by simp [hq]))]
    cases b <;> rfl
theorem cut_rep {n : Nat} {es : List E} (hr : right n es = true) (b : Bool) : cut n es (List.replicate n b) = 0 := by
  unfold cut
  rw [cutSum_rep n b es (fun e he => by
    have := okE_iff.1 ((right_iff.1 hr).2.2.2 e he)
    omega)]
  simp
theorem splice_ints (fl : List Int) : splice (ints (List.replicate (fl.length + 1) 0)) 0 (ints fl) = ints (fl ++ [0]) := by
  unfold splice
  simp
end Gm

theorem flat_take (es : List E) (c : Nat) (h : c ≤ es.length) : (flat (es.take c)).length = c * 3 := by rw [flat_length, List.length_take]; omega
theorem flat_cells {B : Nat} {W : World} {es : List E} {b off : Nat} (hc : ∀ i (h : i < es.length), b < B ∧ W.cell? ⟨b, off + i * 3, none⟩ = some (.int .i64 es[i].1) ∧ W.cell? ⟨b, off + i * 3 + 1, none⟩ = some (.int .i64 es[i].2.1) ∧ W.cell? ⟨b, off + i * 3 + 2, none⟩ = some (.int .i64 es[i].2.2)) (c : Nat) (h : c ≤ es.length) :
    ∀ j u, (flat (es.take c))[j]? = some u → W.cell? ((⟨b, off, none⟩ : Addr).add j) = some u := by
  intro j u hu
  have hj : j < c * 3 := by
    have := (List.getElem?_eq_some_iff.1 hu).1
    rwa [flat_take es c h] at this
  have hadd : (⟨b, off, none⟩ : Addr).add j = ⟨b, off + j, none⟩ := by unfold Addr.add; split <;> simp_all
  rw [hadd]
  have hi : j / 3 < (es.take c).length := by rw [List.length_take]; omega
  have hi' : j / 3 < es.length := by rw [List.length_take] at hi; omega
  obtain ⟨_, c0, c1, c2⟩ := hc (j / 3) hi'
  obtain ⟨f0, f1, f2⟩ := flat_at (es.take c) (j / 3) hi
  have e : (es.take c)[j / 3] = es[j / 3] := List.getElem_take
  rw [e] at f0 f1 f2
  have h3 : j % 3 = 0 ∨ j % 3 = 1 ∨ j % 3 = 2 := by omega
  rcases h3 with h3 | h3 | h3
  · have ej : j / 3 * 3 = j := by omega
    rw [ej, hu] at f0
    rw [show off + j / 3 * 3 = off + j by omega] at c0
    rw [c0]; exact f0.symm
  · have ej : j / 3 * 3 + 1 = j := by omega
    rw [ej, hu] at f1
    rw [show off + j / 3 * 3 + 1 = off + j by omega] at c1
    rw [c1]; exact f1.symm
  · have ej : j / 3 * 3 + 2 = j := by omega
    rw [ej, hu] at f2
    rw [show off + j / 3 * 3 + 2 = off + j by omega] at c2
    rw [c2]; exact f2.symm
theorem flat_one (l : List E) : ∀ u ∈ flat l, u.oneCell' = true := by
  intro u hu
  obtain ⟨e, _, hu⟩ := List.mem_flatMap.1 hu
  simp only [List.mem_cons, List.not_mem_nil, or_false] at hu
  rcases hu with rfl | rfl | rfl <;> rfl
/-- append([]api.Edge(nil), raw.Edges[:c]...). -/
theorem append_nil_edges {W : World} {a : Option Addr} {len cap : Nat} {es : List E} {B : Nat} (hE : NetAt B W a len es) (c : Nat) (hc : c ≤ len) (h40 : c ≤ 40) (ty : TypeId) (base : Nat) (hbase : base ≤ W.heap.size) :
    ∃ v' w', (Builtin.append_ #[22, 22] ty #[.slice none 0 0, .slice a c cap]).run Try.prog W = .ok v' w' ∧ w'.ownsRow base 50 3 v' c (flat (es.take c)) ∧ W.grownBy w' none := by
  obtain ⟨i0, hi0, hz0, hz1, hz2⟩ := info_parts infoEdge
  have hl := hE.1
  obtain ⟨b, off, ha, hcell⟩ := hE.2.2
  by_cases h0 : c = 0
  · subst h0
    refine ⟨.slice none 0 0, W, ?_, ⟨by simp [flat], .inl ⟨rfl, rfl⟩⟩, ⟨rfl, rfl, rfl, Nat.le_refl _, fun _ _ _ => rfl⟩⟩
    cases a <;> simp [Builtin.append_, run_underlying Try.underlying22, sizeOf, typeInfo, hi0, Builtin.lenOf, Builtin.firstCells, loadCells, loadCellsFrom]
  · obtain rfl : a = some ⟨b, off, none⟩ := by
      rcases ha with h | h
      · omega
      · exact h
    obtain ⟨v', w', hr, h2, h3, _, _⟩ := run_append_own_at (P := Try.prog) W base 22 ty 50 i0 _ 3 24 Try.underlying22 hi0 hz0 hz1 hz2 rfl (by decide) (.slice none 0 0) 0 [] (World.ownsRow_nil W base _ _) ⟨b, off, none⟩ c cap (flat (es.take c)) (flat_take es c (by omega)) (flat_cells hcell c (by omega)) (flat_one _) (by simp [maxLen]; omega) (by omega) hbase
    exact ⟨v', w', hr, by simpa using h2, h3⟩
/-- A store to a block of two cells leaves a network alone: its edges lie elsewhere. -/
theorem NetAt.off {B M i : Nat} {W : World} {a : Option Addr} {len : Nat} {es : List E} {t : TypeId} {x y : Value} (h : NetAt B W a len es) (hb : Blk W M t #[x, y]) (u : Value) : NetAt B (W.setCell ⟨M, i, none⟩ u) a len es := by
  obtain ⟨h1, h2, b, off, ha, hc⟩ := h
  refine ⟨h1, h2, b, off, ha, fun j hj => ?_⟩
  obtain ⟨hl, c0, c1, c2⟩ := hc j hj
  have hne : b ≠ M := by
    rintro rfl
    rw [hb.cell] at c2
    simp at c2
  have hk : ∀ o, (W.setCell ⟨M, i, none⟩ u).cell? ⟨b, o, none⟩ = W.cell? ⟨b, o, none⟩ := fun o => World.cell?_setCell_other W _ _ u (fun e => hne (by injection e with e _ _ ; first | exact e | exact e.symm))
  exact ⟨hl, (hk _).trans c0, (hk _).trans c1, (hk _).trans c2⟩
theorem flow_cells {B g len : Nat} {W : World} {fl : List Int} (h : FlowAt B W (some ⟨g, 0, none⟩) len fl) : ∀ j u, (ints fl)[j]? = some u → W.cell? ((⟨g, 0, none⟩ : Addr).add j) = some u := by
  intro j u hu
  have hj : j < (ints fl).length := (List.getElem?_eq_some_iff.1 hu).1
  obtain ⟨b, off, ha, hc⟩ := h.2.2
  obtain ⟨_, c0⟩ := hc j hj
  rcases ha with ha | ha
  · omega
  · injection ha with ha
    injection ha with h1 h2
    subst h1 h2
    have hadd : (⟨g, 0, none⟩ : Addr).add j = ⟨g, j, none⟩ := by unfold Addr.add; split <;> simp_all
    rw [hadd, ← hu]
    rw [Nat.zero_add] at c0
    rw [c0, List.getElem?_eq_getElem hj]
theorem boolsA_more (n k : Nat) (h : k < n) : (boolsA (List.replicate k true ++ List.replicate (n - k) false)).setIfInBounds k (.bool true) = boolsA (List.replicate (k + 1) true ++ List.replicate (n - (k + 1)) false) := by
  rw [boolsA_set]
  congr 1
  apply List.ext_getElem?
  intro i
  rw [List.getElem?_set]
  by_cases e : k = i
  · subst e
    rw [if_pos rfl, if_pos (by simp; omega), List.getElem?_append_left (by simp)]
    simp
  · rw [if_neg e]
    by_cases h1 : i < k
    · rw [List.getElem?_append_left (by simpa using h1), List.getElem?_append_left (by simp; omega)]
      rw [List.getElem?_replicate, List.getElem?_replicate, if_pos h1, if_pos (by omega)]
    · rw [List.getElem?_append_right (by simp; omega), List.getElem?_append_right (by simp; omega)]
      simp only [List.length_replicate, List.getElem?_replicate]
      by_cases h2 : i < n
      · rw [if_pos (by omega), if_pos (by omega)]
      · rw [if_neg (by omega), if_neg (by omega)]
theorem ints_made (W : World) (L : Nat) : (W.alloc (.cells (Array.replicate L (.int .i64 0)) 3)).heap[W.heap.size]? = some (.cells (ints (List.replicate L 0)).toArray 3 (0, 0)) := by
  have e : (ints (List.replicate L 0)).toArray = Array.replicate L (Value.int .i64 0) := by apply Array.toList_inj.1; simp
  rw [e]; exact World.alloc_heap_new W _
theorem slice_edges (a : Option Addr) (len cap m : Nat) (h : m ≤ cap) (w : World) : (Instr.slice 22 (.slice a len cap) none (some (.int .i64 (m : Int))) none).run Try.prog w = .ok (.slice a m cap) w := by
  have hu : Try.prog.underlying 22 = some (.slice (Try.prog.elem 22)) := by kernel_rfl
  have hs : ∀ w, (sizeOf (Try.prog.elem 22)).run Try.prog w = .ok 3 w := fun w => by kernel_rfl
  rw [run_slice_h w 22 a len cap hu .i64 (m : Int) (by omega) (by omega), hs]
  cases a <;> simp [sliced, Result.andThen, Addr.add]
end Go.Proofs.Ythchlfoebkachaa
