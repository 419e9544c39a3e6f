/-
  Blocks that are known whole, as networks, flows and sides; who is seen, as cells; worlds that differ in draws alone.
-/
import Derived.Test.YthchlfoebkachaaMem
namespace Go.Proofs.Ythchlfoebkachaa
open Go.RowKit Gm

def boolsA (r : List Bool) : Array Value := (bools r).toArray
theorem boolsA_at (r : List Bool) (i : Nat) (h : i < r.length) : (boolsA r)[i]? = some (.bool (r[i]?.getD false)) := by simp [boolsA, h]
theorem boolsA_rep (n : Nat) : boolsA (List.replicate n false) = Array.replicate n (.bool false) := by
  apply Array.ext
  · simp [boolsA]
  · intro i h1 h2; simp [boolsA]
theorem boolsA_set (r : List Bool) (i : Nat) (b : Bool) : (boolsA r).setIfInBounds i (.bool b) = boolsA (r.set i b) := by
  unfold boolsA
  apply Array.toList_inj.1
  simp [List.map_set]
def ReachPost (n : Nat) (r : List Bool) (w : World) (e : Ending) (w' : World) : Prop :=
  ∃ g, e = .returned (.slice (some ⟨g, 0, none⟩) n n) ∧ w.heap.size ≤ g ∧ Blk w' g 4 (boolsA r) ∧ Below w.heap.size w w'

theorem cnt_marks {ps : List (Int × Int)} {r : List Bool} (h : ∀ p ∈ ps, inR r.length p) : cnt r ≤ cnt (marks ps r) := (marks_cnt ps r h).1
def Drawn (w w' : World) : Prop := ∃ n, w' = w.drewN n
theorem getD_ext {r q : List Bool} (hl : r.length = q.length) (h : ∀ i, i < r.length → r[i]?.getD false = q[i]?.getD false) : r = q := by
  apply List.ext_getElem hl
  intro i h1 h2
  have := h i h1
  simpa [h1, h2] using this

theorem Drawn.blk {W W' : World} (h : Drawn W W') {g : Nat} {t : TypeId} {cs : Array Value} (b : Blk W g t cs) : Blk W' g t cs := by obtain ⟨n, rfl⟩ := h; exact b
theorem Drawn.low {W W' : World} (h : Drawn W W') (B : Nat) : Below B W W' := by obtain ⟨n, rfl⟩ := h; exact below_drewN (Below.refl B W) n
theorem vals_blk {W : World} {g : Nat} {t : TypeId} {vs : List Value} (h : Blk W g t vs.toArray) : ValsAt W.heap.size W (some ⟨g, 0, none⟩) vs :=
  ⟨g, 0, .inr rfl, fun i hi => ⟨h.lt, by rw [Nat.zero_add, h.cell]; simp [hi]⟩⟩
theorem flow_blk {W : World} {g : Nat} {l : List Int} (h : Blk W g 3 (ints l).toArray) (hl : l.length ≤ 17592186044416) : FlowAt W.heap.size W (some ⟨g, 0, none⟩) l.length l := ⟨rfl, hl, vals_blk h⟩
theorem side_blk {W : World} {g n : Nat} {r : List Bool} (h : Blk W g 4 (boolsA r)) (hr : r.length = n) (hl : n ≤ 140737488355328) : SideAt W.heap.size W (some ⟨g, 0, none⟩) n r := ⟨hr, hl, vals_blk h⟩
theorem edges_blk {W : World} {g : Nat} {es : List E} (h : ∀ i (hi : i < es.length), W.cell? ⟨g, i * 3, none⟩ = some (.int .i64 es[i].1) ∧ W.cell? ⟨g, i * 3 + 1, none⟩ = some (.int .i64 es[i].2.1) ∧ W.cell? ⟨g, i * 3 + 2, none⟩ = some (.int .i64 es[i].2.2)) (hg : g < W.heap.size) (hl : es.length ≤ 5864062014805) : NetAt W.heap.size W (some ⟨g, 0, none⟩) es.length es :=
  ⟨rfl, hl, g, 0, .inr rfl, fun i hi => ⟨hg, by simpa using (h i hi).1, by simpa using (h i hi).2.1, by simpa using (h i hi).2.2⟩⟩
/-- What a flow has at an edge's place. -/
def flowAt (fl : List Int) (i : Nat) : Int := fl[i]?.getD 0
theorem zip_mem {es : List E} {fl : List Int} (h : fl.length = es.length) {p : E × Int} (hp : p ∈ es.zip fl) : ∃ i, ∃ hi : i < es.length, p = (es[i], flowAt fl i) := by
  obtain ⟨i, hi, e⟩ := List.getElem_of_mem hp
  have hi' : i < es.length := by rw [List.length_zip] at hi; omega
  refine ⟨i, hi', ?_⟩
  rw [← e, List.getElem_zip]
  unfold flowAt
  rw [List.getElem?_eq_getElem (by omega)]; rfl
theorem fits_n {v : Int} {es : List E} {fl : List Int} (h : fits v es fl = true) : 2 ≤ v ∧ v ≤ 64 := by
  have := right_iff.1 (fits_iff.1 h).1; omega
end Go.Proofs.Ythchlfoebkachaa
