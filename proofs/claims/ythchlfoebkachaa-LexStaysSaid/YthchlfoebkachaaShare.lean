/-
  What the laws over raw networks and walks share.
-/
import Derived.Test.YthchlfoebkachaaCalm
import Derived.Test.YthchlfoebkachaaFlow
import Derived.Test.YthchlfoebkachaaOpen
import Derived.Test.YthchlfoebkachaaRows
namespace Go.Proofs.Ythchlfoebkachaa
open Go.RowKit Gm

theorem value_at {n : Nat} {es : List E} {fl : List Int} (h : GoodF n es fl) {s : Int} (h0 : 0 ≤ s) (h1 : s < n) : value n es fl s = gain (es.zip fl) s := by
  unfold value
  rw [h.fits]
  have : vtx n s = true := by simp [vtx, h0, h1]
  rw [this]; rfl
theorem flow_bd {n : Nat} {es : List E} {fl : List Int} (h : GoodF n es fl) : 0 ≤ gain (es.zip fl) 0 ∧ gain (es.zip fl) 0 ≤ 256000 := by
  refine ⟨h.pos, ?_⟩
  have h1 := gain_bd (es.zip fl) 0 (fun p hp => by
    have a := h.fit p hp
    have b := okE_iff.1 (h.ok p hp)
    omega)
  have h2 : (es.zip fl).length ≤ 256 := by
    have := (right_iff.1 h.net).2.2.1
    rw [List.length_zip]; omega
  omega
theorem has_set_any (r : List Bool) (i : Nat) (h : i < r.length) (b : Bool) (x : Int) (hx : 0 ≤ x) : has (r.set i b) x = if x = i then b else has r x := by
  unfold has
  rw [List.getElem?_set]
  by_cases e : x = i
  · subst e; simp [h]
  · have : i ≠ x.toNat := by omega
    simp [this, e]
/-- No cut is less than what flows. -/
theorem cut_ge {n : Nat} {es : List E} {fl : List Int} (h : GoodF n es fl) {r : List Bool} (hr : r.length = n) (h0 : has r 0 = true) (h1 : has r 1 = false) : gain (es.zip fl) 0 ≤ cut n es r := by
  unfold cut
  rw [h.net, hr]
  simp only [Bool.true_and, decide_true, if_true]
  rw [← h.border (has r) h0 h1]
  exact cross_le r es fl h.len h.fit
/-- A piece of code that ends in one frame, in a world behind a given one, whatever the order. -/
theorem behind_after {c : Code} {P : Program} {Q : Exit → Act → World → Prop} {a : Act} {w : World} (B : Nat) (w0 : World) (A : Act) (h : c.wp P (fun e a' w' => e = .normal ∧ a' = A ∧ Below B w0 w') a w) (hq : ∀ W, Below B w0 W → Q .normal A W) : c.wp P Q a w :=
  wp_mono h fun _ _ _ ⟨h1, h2, h3⟩ => by rw [h1, h2]; exact hq _ h3
theorem on_below {w4 W W' : World} (h : Below w4.heap.size w4 W) (h' : Below W.heap.size W W') : Below w4.heap.size w4 W' := h.trans (h'.mono h.size)
theorem net_on {w4 W : World} {a : Option Addr} {len : Nat} {es : List E} (h : NetAt w4.heap.size w4 a len es) (hb : Below w4.heap.size w4 W) : NetAt W.heap.size W a len es := (h.below hb).more hb.size
theorem flow_on {w4 W : World} {a : Option Addr} {len : Nat} {fl : List Int} (h : FlowAt w4.heap.size w4 a len fl) (hb : Below w4.heap.size w4 W) : FlowAt W.heap.size W a len fl := (h.below hb).more hb.size
theorem side_on {w4 W : World} {a : Option Addr} {len : Nat} {r : List Bool} (h : SideAt w4.heap.size w4 a len r) (hb : Below w4.heap.size w4 W) : SideAt W.heap.size W a len r := (h.below hb).more hb.size
/-- An edge, with what flows in it, over which v is reached. -/
def feeds (R : List Bool) (v : Int) (p : E × Int) : Bool := ((p.1.2.1 == v) && (has R p.1.1 && decide (p.2 < p.1.2.2))) || ((p.1.1 == v) && (has R p.1.2.1 && decide (0 < p.2)))
def fromB (R : List Bool) (v : Int) (z : Z) (j : Nat) : Bool := !has R v || (z.take j).any (feeds R v)
theorem fromB_step (R : List Bool) (v : Int) {es : List E} {fl : List Int} (hl : fl.length = es.length) {j : Nat} (hj : j < es.length) : fromB R v (es.zip fl) (j + 1) = (fromB R v (es.zip fl) j || feeds R v (ed es j, fa fl j)) := by
  have h : (es.zip fl)[j]? = some (ed es j, fa fl j) := by
    have e1 : ed es j = es[j] := by unfold ed; rw [List.getElem?_eq_getElem hj]; rfl
    have e2 : fa fl j = fl[j]'(by omega) := by unfold fa; rw [List.getElem?_eq_getElem (by omega)]; rfl
    rw [e1, e2, List.getElem?_eq_getElem (by rw [List.length_zip]; omega), List.getElem_zip]
  unfold fromB
  rw [List.take_add_one, h]
  simp [List.any_append, Bool.or_assoc]
theorem fromB_end {n : Int} {es : List E} {fl : List Int} {R : List Bool} (hl : fl.length = es.length) (h : Reached n (es.zip fl) 0 R) {v : Int} (hv : 1 ≤ v) : fromB R v (es.zip fl) es.length = true := by
  unfold fromB
  rw [List.take_of_length_le (by rw [List.length_zip]; omega)]
  cases hr : has R v with
  | false => rfl
  | true =>
    rcases h.from' v (by omega) hr with h0 | ⟨p, hp, h1, h2⟩
    · omega
    · obtain ⟨q, hq, hpq⟩ := List.mem_flatMap.1 hp
      simp only [Bool.not_true, Bool.false_or]
      refine List.any_eq_true.2 ⟨q, hq, ?_⟩
      unfold pairsE at hpq
      rcases List.mem_append.1 hpq with hm | hm
      · split at hm
        · obtain rfl := List.mem_singleton.1 hm
          dsimp only at h1 h2
          unfold feeds; simp [*]
        · cases hm
      · split at hm
        · obtain rfl := List.mem_singleton.1 hm
          dsimp only at h1 h2
          unfold feeds; simp [*]
        · cases hm
theorem feed_ways : ∀ F e1 A l e2 B p X : Bool, (e1 && e2) = false → X = (F || ((e1 && (A && l)) || (e2 && (B && p)))) →
    (F = true ∧ X = true) ∨ (F = false ∧ e1 = true ∧ A = true ∧ l = true ∧ X = true) ∨ (F = false ∧ e1 = true ∧ A = true ∧ l = false ∧ e2 = false ∧ X = false) ∨ (F = false ∧ e1 = true ∧ A = false ∧ e2 = false ∧ X = false) ∨ (F = false ∧ e1 = false ∧ e2 = false ∧ X = false) ∨ (F = false ∧ e1 = false ∧ e2 = true ∧ B = false ∧ X = false) ∨ (F = false ∧ e1 = false ∧ e2 = true ∧ B = true ∧ p = false ∧ X = false) ∨ (F = false ∧ e1 = false ∧ e2 = true ∧ B = true ∧ p = true ∧ X = true) := by
  intro F e1 A l e2 B p X h hx
  subst hx
  revert h
  rcases F with _ | _ <;> rcases e1 with _ | _ <;> rcases A with _ | _ <;> rcases l with _ | _ <;> rcases e2 with _ | _ <;> rcases B with _ | _ <;> rcases p with _ | _ <;> simp
/-- The side that is reached lets through what flows, where the end is not reached. -/
theorem cut_reach {n : Nat} {es : List E} {fl : List Int} {R : List Bool} (h : GoodF n es fl) (hr : Reached n (es.zip fl) 0 R) (h1 : has R 1 = false) (hn : 2 ≤ n) : cut n es R = value n es fl 0 := by
  rw [value_at h (by omega) (by omega), ← h.border (has R) hr.first h1, cross_eq R es fl h.len h.fit hr.closed]
  unfold cut
  have hl : (R.length : Int) = n := by rw [hr.len]; simp
  rw [h.net, hl]
  simp
end Go.Proofs.Ythchlfoebkachaa
