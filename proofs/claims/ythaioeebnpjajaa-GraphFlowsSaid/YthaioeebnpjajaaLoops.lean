/-
  A loop by a number of one's own; the return of a function in which ranges over functions have run one after the other.
-/
import Derived.RangeFuncLeaves
import Derived.RangeFuncWrites
import Derived.Test.YthaioeebnpjajaaBase
namespace Go.Proofs.Ythaioeebnpjajaa
open Go.RowKit

theorem least_of {p : Nat → Prop} (h : ∃ k, p k) : ∃ k, p k ∧ ∀ j, p j → k ≤ j := by
  obtain ⟨k, hk⟩ := h
  induction k using Nat.strongRecOn with
  | _ k ih =>
    by_cases hj : ∃ j, j < k ∧ p j
    · obtain ⟨j, h1, h2⟩ := hj
      exact ih j h1 h2
    · exact ⟨k, hk, fun j h => Nat.le_of_not_lt fun h' => hj ⟨j, h', h⟩⟩
open Classical in
theorem wpIn_loop_by {F : Fence} {n : Nat} {P : Program} {c : Code} {Q : Exit → Act → World → Prop} {a : Act} {w : World} (I : Nat → Act → World → Prop) (k : Nat) (h0 : I k a w)
    (round : ∀ k a w, I k a w → c.wpIn F n P (Exit.then (fun a' w' => ∃ k', k' < k ∧ I k' a' w') Q) a w) : (Code.loop c).wpIn F n P Q a w := by
  refine wpIn_loop (fun a w => ∃ k, I k a w) (fun a w => if h : ∃ k, I k a w then (least_of h).choose else 0) ⟨k, h0⟩ ?_
  intro a w h
  refine wpIn_mono (round _ a w (least_of h).choose_spec.1) ?_
  rintro e a' w' hp
  cases e with
  | normal =>
    obtain ⟨k', hk, hi⟩ := hp
    have h' : ∃ k, I k a' w' := ⟨k', hi⟩
    refine ⟨h', ?_⟩
    simp only [dif_pos h, dif_pos h']
    exact Nat.lt_of_le_of_lt ((least_of h').choose_spec.2 k' hi) hk
  | _ => exact hp

/-- The marks of ranges over functions, blocks from B on. -/
def Marks (B : Nat) (W : World) : List Deferred → Prop
  | [] => True
  | d :: ds => (∃ D, d = { target := .collected D, args := #[] } ∧ B ≤ D ∧ W.heap[D]? = some (.deferred (some [])) ∧ ∀ D', ({ target := .collected D', args := #[] } : Deferred) ∈ ds → D' ≠ D) ∧ Marks B W ds
theorem Marks.keep {B : Nat} {W W' : World} : ∀ {ds : List Deferred}, Marks B W ds → (∀ D, ({ target := .collected D, args := #[] } : Deferred) ∈ ds → W.heap[D]? = some (.deferred (some [])) → W'.heap[D]? = some (.deferred (some []))) → Marks B W' ds
  | [], _, _ => trivial
  | d :: ds, ⟨⟨D, hd, hB, hh, hne⟩, hm⟩, hk => ⟨⟨D, hd, hB, hk D (by rw [hd]; simp) hh, hne⟩, Marks.keep hm fun D' hD' => hk D' (by simp [hD'])⟩
theorem Marks.lt {B : Nat} {W : World} : ∀ {ds : List Deferred}, Marks B W ds → ∀ {D}, ({ target := .collected D, args := #[] } : Deferred) ∈ ds → D < W.heap.size
  | [], _, _, h => by simp at h
  | d :: ds, ⟨⟨D, hd, hB, hh, hne⟩, hm⟩, D', h => by
    rcases List.mem_cons.1 h with h | h
    · rw [hd] at h
      have : D' = D := by injection h with h; injection h
      rw [this]; exact (Array.getElem?_eq_some_iff.1 hh).1
    · exact Marks.lt hm h

theorem leaves_marks {F : Fence} {n : Nat} {P : Program} {fn : Func} {tmps : Array Value} {R : Ending → World → Prop} {v : Value} {B : Nat} (hres : ∀ w, (results fn tmps).run P w = .ok v w) :
    ∀ (ds : List Deferred) (W : World), B ≤ W.heap.size → Marks B W ds → (∀ W', Below B W W' → (∀ (g : Nat) (o : Obj), W.heap[g]? = some o → o.isCells = true → W'.heap[g]? = some o) → R (.returned v) W') → LeavesInM F n P fn tmps R ds .returning W
  | [], W, _, _, h => ⟨v, hres W, h W (Below.refl _ _) (fun _ _ h _ => h)⟩
  | d :: ds, W, hz, ⟨⟨D, hd, hB, hh, hne⟩, hm⟩, h => by
    subst hd
    have hlt := (Array.getElem?_eq_some_iff.1 hh).1
    refine ⟨by simp, .inl ⟨D, _, rfl, run_takeDeferred hh, ?_⟩⟩
    refine leaves_marks hres ds _ (by simpa using hz) (Marks.keep hm fun D' hD' hk => (World.putObj_heap_other (hne D' hD')).trans hk) fun W' hb hc => h W' ?_ ?_
    · exact ((Below.refl B W).grown (grownBy_putObj' W D _) hz (fun k e => by cases e; exact hB)).trans hb
    · intro g o hg ho
      refine hc g o ((World.putObj_heap_other (fun e => ?_)).trans hg) ho
      subst e
      rw [hh] at hg; cases hg; cases ho
end Go.Proofs.Ythaioeebnpjajaa
