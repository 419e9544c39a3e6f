/-
  The document's own disk in memory: its block, and the row of its files.
-/
import Derived.Deep.AppendLies
import Derived.Laws.OwnMore
import Derived.OwnWalk
import Derived.Deep.DeepCutAuto
import Derived.Test.YtffpmcelelloeaaHelp
namespace Go.Proofs.Ytffpmcelelloeaa
open Go.RowKit Gm

/-- A file as a value; files as cells. -/
abbrev fileV (f : Fl) : Value := .agg #[.string (S f.nm), .string (S f.tx), .int .i64 (f.sy : Int)]
def cellsV (f : Fl) : List Value := [.string (S f.nm), .string (S f.tx), .int .i64 (f.sy : Int)]
def filesV (l : List Fl) : List Value := l.flatMap cellsV
theorem filesV_nil : filesV [] = [] := rfl
theorem filesV_cons (f : Fl) (l : List Fl) : filesV (f :: l) = cellsV f ++ filesV l := rfl
theorem filesV_app (l m : List Fl) : filesV (l ++ m) = filesV l ++ filesV m := by unfold filesV; rw [List.flatMap_append]
theorem filesV_len (l : List Fl) : (filesV l).length = l.length * 3 := by
  induction l with
  | nil => rfl
  | cons f l ih => rw [filesV_cons, List.length_append, ih]; simp [cellsV]; omega
theorem filesV_at : ∀ (l : List Fl) (i : Nat) (h : i < l.length), (filesV l)[i * 3]? = some (.string (S l[i].nm)) ∧ (filesV l)[i * 3 + 1]? = some (.string (S l[i].tx)) ∧ (filesV l)[i * 3 + 2]? = some (.int .i64 (l[i].sy : Int))
  | [], i, h => by simp at h
  | f :: l, 0, _ => by simp [filesV_cons, cellsV]
  | f :: l, i + 1, h => by
    have ih := filesV_at l i (by simpa using h)
    have e : ∀ j, (filesV (f :: l))[(i + 1) * 3 + j]? = (filesV l)[i * 3 + j]? := fun j => by
      rw [filesV_cons, List.getElem?_append_right (by simp [cellsV]; omega)]
      congr 1
      simp [cellsV]; omega
    have e0 := e 0
    simp only [Nat.add_zero] at e0
    rw [e0, e 1, e 2]
    exact ih
theorem filesV_one (l : List Fl) : ∀ u ∈ filesV l, u.oneCell' = true := by
  intro u hu
  obtain ⟨f, _, hf⟩ := List.mem_flatMap.1 hu
  simp [cellsV] at hf
  rcases hf with rfl | rfl | rfl <;> rfl
theorem infoFile : (Try.prog.info? 67).map (fun i => (i.zero, i.size, i.bytes)) = some (some (.agg #[.string ByteArray.empty, .string ByteArray.empty, .int .i64 0]), 3, 40) := by kernel_rfl

/-- BLOCK p IS THE DOCUMENT's DISK D; v: its row of files. -/
structure QAt (w : World) (p : Nat) (v : Value) (D : Dk) : Prop where
  blk : w.heap[p]? = some (.cells #[v, .int .i64 (D.acts : Int), .int .i64 (D.arm : Int), .bool D.off] 58 (0, 0))
  row : w.ownsRow 0 67 3 v D.fs.length (filesV D.fs)
def QDisk : Kind := fun w p D R => OkD D ∧ ∃ v, (∀ b, R b ↔ (b = p ∨ v.ownBlock = some b)) ∧ QAt w p v D

theorem own_moved {w w' : World} {base e size n : Nat} {v : Value} {xs : List Value} (h : w.ownsRow base e size v n xs) (hb : ∀ b, v.ownBlock = some b → w'.heap[b]? = w.heap[b]?) : w'.ownsRow base e size v n xs := by
  obtain ⟨h1, h2⟩ := h
  refine ⟨h1, ?_⟩
  rcases h2 with h2 | ⟨g, cap, cur, hv, hg, hh, r⟩
  · exact .inl h2
  · exact .inr ⟨g, cap, cur, hv, hg, (hb g (by rw [hv]; rfl)).trans hh, r⟩
theorem QAt.keep {w w' : World} {p : Nat} {v : Value} {D : Dk} (h : QAt w p v D) (hb : ∀ b, (b = p ∨ v.ownBlock = some b) → w'.heap[b]? = w.heap[b]?) : QAt w' p v D :=
  ⟨(hb p (.inl rfl)).trans h.blk, own_moved h.row fun b e => hb b (.inr e)⟩
theorem QAt.lt {w : World} {p : Nat} {v : Value} {D : Dk} (h : QAt w p v D) : p < w.heap.size ∧ ∀ b, v.ownBlock = some b → b < w.heap.size :=
  ⟨(Array.getElem?_eq_some_iff.1 h.blk).1, fun b e => (h.row.lt b e).2⟩
theorem QAt.below {w w' : World} {p : Nat} {v : Value} {D : Dk} (h : QAt w p v D) (hb : Below w.heap.size w w') : QAt w' p v D := h.keep fun b e => hb.block b (by
  rcases e with rfl | e
  · exact h.lt.1
  · exact h.lt.2 b e)
theorem QAt.cells {w : World} {p : Nat} {v : Value} {D : Dk} (h : QAt w p v D) : w.cell? ⟨p, 0, none⟩ = some v ∧ w.cell? ⟨p, 1, none⟩ = some (.int .i64 (D.acts : Int)) ∧ w.cell? ⟨p, 2, none⟩ = some (.int .i64 (D.arm : Int)) ∧ w.cell? ⟨p, 3, none⟩ = some (.bool D.off) ∧ (∀ i, w.frozen? ⟨p, i, none⟩ = false) ∧ p < w.heap.size := by
  have hb := h.blk
  refine ⟨by rw [cell_of_row _ _ _ _ _ _ hb]; rfl, by rw [cell_of_row _ _ _ _ _ _ hb]; rfl, by rw [cell_of_row _ _ _ _ _ _ hb]; rfl, by rw [cell_of_row _ _ _ _ _ _ hb]; rfl, fun i => by simp [World.frozen?, hb], h.lt.1⟩
/-- The row is no part of the disk's own block. -/
theorem QAt.ne {w : World} {p : Nat} {v : Value} {D : Dk} (h : QAt w p v D) : v.ownBlock ≠ some p := by
  intro e
  rcases h.row.2 with ⟨rfl, _⟩ | ⟨g, cap, cur, rfl, _, hh, _⟩
  · simp [Value.ownBlock] at e
  · have : g = p := by simpa [Value.ownBlock] using e
    subst this
    have := h.blk
    rw [hh] at this
    injection this with this
    injection this with _ ht
    exact absurd ht (by decide)
theorem qdisk_law : Lawful QDisk where
  lt := fun ⟨_, v, hR, h⟩ b hb => by
    rcases (hR b).1 hb with rfl | e
    · exact h.lt.1
    · exact h.lt.2 b e
  keep := fun ⟨ok, v, hR, h⟩ _ hb => ⟨ok, v, hR, h.keep fun b e => hb b ((hR b).2 e)⟩
  ok := fun h => h.1
/-- File i of the row. -/
theorem QAt.file {w : World} {p : Nat} {v : Value} {D : Dk} (h : QAt w p v D) {i : Nat} (hi : i < D.fs.length) : ∃ g cap, v = .slice (some ⟨g, 0, none⟩) D.fs.length cap ∧ g < w.heap.size ∧ g ≠ p ∧
    w.cell? ⟨g, i * 3, none⟩ = some (.string (S D.fs[i].nm)) ∧ w.cell? ⟨g, i * 3 + 1, none⟩ = some (.string (S D.fs[i].tx)) ∧ w.cell? ⟨g, i * 3 + 2, none⟩ = some (.int .i64 (D.fs[i].sy : Int)) ∧ ∀ j, w.frozen? ⟨g, j, none⟩ = false := by
  have hne := h.ne
  rcases h.row.2 with ⟨_, h2⟩ | ⟨g, cap, cur, hv, hg, hh, hle, hm, hs, ht⟩
  · omega
  · have hlt : g < w.heap.size := (Array.getElem?_eq_some_iff.1 hh).1
    have hat : ∀ j, j < D.fs.length * 3 → w.cell? ⟨g, j, none⟩ = (filesV D.fs)[j]? := fun j hj => by
      rw [cell_of_row w g j cur 67 (0, 0) hh, ← ht, List.getElem?_take_of_lt hj, Array.getElem?_toList]
    obtain ⟨f0, f1, f2⟩ := filesV_at D.fs i hi
    refine ⟨g, cap, hv, hlt, fun e => hne (by rw [hv, e]; rfl), ?_, ?_, ?_, fun j => by simp [World.frozen?, hh]⟩
    · rw [hat _ (by omega), f0]
    · rw [hat _ (by omega), f1]
    · rw [hat _ (by omega), f2]
theorem QAt.form {w : World} {p : Nat} {v : Value} {D : Dk} (h : QAt w p v D) : ∃ a cap, v = .slice a D.fs.length cap := by
  rcases h.row.2 with ⟨rfl, h2⟩ | ⟨g, cap, cur, hv, _⟩
  · exact ⟨_, _, by rw [h2]⟩
  · exact ⟨_, _, hv⟩
/-- A field of the disk is written. -/
theorem QAt.set1 {w : World} {p : Nat} {v : Value} {D : Dk} (h : QAt w p v D) (n : Nat) : QAt (w.setCell ⟨p, 1, none⟩ (.int .i64 (n : Int))) p v { D with acts := n } :=
  ⟨by simp [World.setCell, Array.getElem?_modify, h.blk], own_moved h.row fun b e => Below.heap_setCell _ _ _ b (fun e' => h.ne (by rw [e, e']))⟩
theorem QAt.set2 {w : World} {p : Nat} {v : Value} {D : Dk} (h : QAt w p v D) (n : Nat) : QAt (w.setCell ⟨p, 2, none⟩ (.int .i64 (n : Int))) p v { D with arm := n } :=
  ⟨by simp [World.setCell, Array.getElem?_modify, h.blk], own_moved h.row fun b e => Below.heap_setCell _ _ _ b (fun e' => h.ne (by rw [e, e']))⟩
theorem QAt.set3 {w : World} {p : Nat} {v : Value} {D : Dk} (h : QAt w p v D) (x : Bool) : QAt (w.setCell ⟨p, 3, none⟩ (.bool x)) p v { D with off := x } :=
  ⟨by simp [World.setCell, Array.getElem?_modify, h.blk], own_moved h.row fun b e => Below.heap_setCell _ _ _ b (fun e' => h.ne (by rw [e, e']))⟩
/-- The disk's row is another one. -/
theorem QAt.set0 {w : World} {p : Nat} {v v' : Value} {D : Dk} {l : List Fl} (h : QAt w p v D) (hr : w.ownsRow 0 67 3 v' l.length (filesV l)) (hne : v'.ownBlock ≠ some p) : QAt (w.setCell ⟨p, 0, none⟩ v') p v' { D with fs := l } :=
  ⟨by simp [World.setCell, Array.getElem?_modify, h.blk], own_moved hr fun b e => Below.heap_setCell _ _ _ b (fun e' => hne (by rw [e, e']))⟩
end Go.Proofs.Ytffpmcelelloeaa
