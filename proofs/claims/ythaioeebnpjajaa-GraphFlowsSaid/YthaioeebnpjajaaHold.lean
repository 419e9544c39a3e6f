/-
  Blocks that are known whole, as networks, flows and sides.
-/
import Derived.Test.YthaioeebnpjajaaCut
import Derived.Test.YthaioeebnpjajaaLaw
namespace Go.Proofs.Ythaioeebnpjajaa
open Go.RowKit Gm

theorem Drawn.blk {W W' : World} (h : Drawn W W') {g : Nat} {t : TypeId} {cs : Array Value} (b : Blk W g t cs) : Blk W' g t cs := by obtain ⟨n, rfl⟩ := h; exact b
theorem Drawn.low {W W' : World} (h : Drawn W W') (B : Nat) : Below B W W' := by obtain ⟨n, rfl⟩ := h; exact below_drewN (Below.refl B W) n
theorem vals_blk {W : World} {g : Nat} {t : TypeId} {vs : List Value} (h : Blk W g t vs.toArray) : ValsAt W.heap.size W (some ⟨g, 0, none⟩) vs :=
  ⟨g, 0, .inr rfl, fun i hi => ⟨h.lt, by rw [Nat.zero_add, h.cell]; simp [hi]⟩⟩
theorem flow_blk {W : World} {g : Nat} {l : List Int} (h : Blk W g 3 (ints l).toArray) (hl : l.length ≤ 17592186044416) : FlowAt W.heap.size W (some ⟨g, 0, none⟩) l.length l := ⟨rfl, hl, vals_blk h⟩
theorem side_blk {W : World} {g n : Nat} {r : List Bool} (h : Blk W g 4 (boolsA r)) (hr : r.length = n) (hl : n ≤ 140737488355328) : SideAt W.heap.size W (some ⟨g, 0, none⟩) n r := ⟨hr, hl, vals_blk h⟩
theorem edges_blk {W : World} {g : Nat} {es : List E} (h : ∀ i (hi : i < es.length), W.cell? ⟨g, i * 3, none⟩ = some (.int .i64 es[i].1) ∧ W.cell? ⟨g, i * 3 + 1, none⟩ = some (.int .i64 es[i].2.1) ∧ W.cell? ⟨g, i * 3 + 2, none⟩ = some (.int .i64 es[i].2.2)) (hg : g < W.heap.size) (hl : es.length ≤ 5864062014805) : NetAt W.heap.size W (some ⟨g, 0, none⟩) es.length es :=
  ⟨rfl, hl, g, 0, .inr rfl, fun i hi => ⟨hg, by simpa using (h i hi).1, by simpa using (h i hi).2.1, by simpa using (h i hi).2.2⟩⟩
end Go.Proofs.Ythaioeebnpjajaa
