/-
  What the laws over raw networks and walks share.
-/
import Derived.Test.YthaioeebnpjajaaAwake
import Derived.Test.YthaioeebnpjajaaFlow
import Derived.Test.YthaioeebnpjajaaOpen
import Derived.Test.YthaioeebnpjajaaRows
namespace Go.Proofs.Ythaioeebnpjajaa
open Go.RowKit Gm

theorem value_at {n : Nat} {es : List E} {fl : List Int} (h : GoodF n es fl) {s : Int} (h0 : 0 ≤ s) (h1 : s < n) : value n es fl s = gain (es.zip fl) s := by
  unfold value
  rw [h.fits]
  have : vtx n s = true := by simp [vtx, h0, h1]
  rw [this]; rfl
theorem flow_bd {n : Nat} {es : List E} {fl : List Int} (h : GoodF n es fl) : 0 ≤ gain (es.zip fl) 0 ∧ gain (es.zip fl) 0 ≤ 256000 := by
  refine ⟨h.pos, ?_⟩
  have h1 := gain_bd (es.zip fl) 0 (fun p hp => by
    have a := h.fit p hp
    have b := okE_iff.1 (h.ok p hp)
    omega)
  have h2 : (es.zip fl).length ≤ 256 := by
    have := (right_iff.1 h.net).2.2.1
    rw [List.length_zip]; omega
  omega
theorem has_set_any (r : List Bool) (i : Nat) (h : i < r.length) (b : Bool) (x : Int) (hx : 0 ≤ x) : has (r.set i b) x = if x = i then b else has r x := by
  unfold has
  rw [List.getElem?_set]
  by_cases e : x = i
  · subst e; simp [h]
  · have : i ≠ x.toNat := by omega
    simp [this, e]
/-- No cut is less than what flows. -/
theorem cut_ge {n : Nat} {es : List E} {fl : List Int} (h : GoodF n es fl) {r : List Bool} (hr : r.length = n) (h0 : has r 0 = true) (h1 : has r 1 = false) : gain (es.zip fl) 0 ≤ cut n es r := by
  unfold cut
  rw [h.net, hr]
  simp only [Bool.true_and, decide_true, if_true]
  rw [← h.border (has r) h0 h1]
  exact cross_le r es fl h.len h.fit
end Go.Proofs.Ythaioeebnpjajaa
