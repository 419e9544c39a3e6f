/-
  A block that begins with these numbers, read and written.
-/
import Derived.Test.YtjkfiilnogacnaaSafen
namespace Go.Proofs.Ytjkfiilnogacnaa
open Go.RowKit Gm

/-- BLOCK g BEGINS WITH THESE NUMBERS. -/
def RowC (W : World) (g : Nat) (l : List Int) : Prop := ∃ cur : Array Value, W.heap[g]? = some (.cells cur 3 (0, 0)) ∧ cur.toList.take l.length = numV l
theorem RowC.of_row {W : World} {base g n c : Nat} {l : List Int} (h : W.ownsRow base 3 1 (.slice (some ⟨g, 0, none⟩) n c) n (numV l)) : RowC W g l := by
  have hl : l.length = n := by have := h.1; rw [numV_len] at this; omega
  rcases h.2 with ⟨hv, _⟩ | ⟨g', cap, cur, hv, hb, hh, hle, hm, hs, ht⟩
  · cases hv
  · injection hv with e1 e2 e3
    injection e1 with e1
    injection e1 with e1 _ _
    subst e1
    exact ⟨cur, hh, by rw [hl, ← ht, Nat.mul_one]⟩
theorem RowC.lt {W : World} {g : Nat} {l : List Int} (h : RowC W g l) : g < W.heap.size := by
  obtain ⟨cur, hh, _⟩ := h
  exact (Array.getElem?_eq_some_iff.1 hh).1
theorem RowC.cell {W : World} {g : Nat} {l : List Int} (h : RowC W g l) {i : Nat} (hi : i < l.length) : W.cell? ⟨g, i, none⟩ = some (.int .i64 (atN l i)) := by
  obtain ⟨cur, hh, ht⟩ := h
  rw [cell_of_row W g i cur 3 (0, 0) hh, ← atN_of hi, ← numV_at l i hi, ← ht, List.getElem?_take_of_lt hi, Array.getElem?_toList]
theorem RowC.frozen {W : World} {g : Nat} {l : List Int} (h : RowC W g l) (i : Nat) : W.frozen? ⟨g, i, none⟩ = false := by
  obtain ⟨cur, hh, ht⟩ := h
  simp [World.frozen?, hh]
theorem RowC.block {W W' : World} {g : Nat} {l : List Int} (h : RowC W g l) (hb : W'.heap[g]? = W.heap[g]?) : RowC W' g l := by
  obtain ⟨cur, hh, ht⟩ := h
  exact ⟨cur, hb.trans hh, ht⟩
theorem RowC.below {W W' : World} {g B : Nat} {l : List Int} (h : RowC W g l) (hb : Below B W W') (hg : g < B) : RowC W' g l := h.block (hb.block g hg)
theorem RowC.up {W W' : World} {g : Nat} {l : List Int} (h : RowC W g l) (hb : Below W.heap.size W W') : RowC W' g l := h.below hb h.lt
theorem RowC.set {W : World} {g : Nat} {l : List Int} (h : RowC W g l) (i : Nat) (v : Int) : RowC (W.setCell ⟨g, i, none⟩ (.int .i64 v)) g (l.set i v) := by
  obtain ⟨cur, hh, ht⟩ := h
  refine ⟨cur.setIfInBounds i (.int .i64 v), by simp [World.setCell, Array.getElem?_modify, hh], ?_⟩
  rw [List.length_set, Array.toList_setIfInBounds, List.take_set, ht]
  simp [numV, List.map_set]
theorem RowC.other {W : World} {g b i : Nat} {l : List Int} {u : Value} (h : RowC W g l) (hb : g ≠ b) : RowC (W.setCell ⟨b, i, none⟩ u) g l := h.block (Below.heap_setCell _ _ _ g hb)
theorem RowC.keep {W : World} {g n : Nat} {l : List Int} (h : RowC W g l) (hn : l.length = n) (hx : ∀ x ∈ l, I64 x) : KeepB W.heap.size W (some ⟨g, 0, none⟩) n l := by
  refine ⟨hn, g, 0, .inr rfl, fun i hi => ⟨h.lt, ?_, hx _ (List.getElem_mem hi)⟩⟩
  rw [Nat.zero_add, h.cell hi, atN_of hi]
theorem made_rep (z : Value) (n : Nat) : madeCells #[z] n = Array.replicate n z := by
  apply Array.toList_inj.1
  rw [toList_madeCells_one]; simp
theorem make_ints (n : Nat) (h : n ≤ 35184372088832) (w : World) : (Instr.makeSlice 22 (.int .i64 (n : Int)) (.int .i64 (n : Int))).run Try.prog w = .ok (.slice (some ⟨w.heap.size, 0, none⟩) n n) (w.alloc (.cells (Array.replicate n (.int .i64 0)) 3)) := by
  obtain ⟨i0, hi, hz0, hz1, hz2⟩ := info_parts infoInt
  have := run_make (P := Try.prog) w 22 3 i0 (.int .i64 0) Try.underlying22 hi hz0 .i64 .i64 (n : Int) (n : Int) (by omega) (Int.le_refl _) (by rw [hz2]; omega) (by omega)
  rw [hz1] at this
  simpa [Value.cells, made_rep] using this
abbrev zeros8 : Obj := .cells #[.int .i64 0, .int .i64 0, .int .i64 0, .int .i64 0, .int .i64 0, .int .i64 0, .int .i64 0, .int .i64 0] 3 (0, 0)
theorem make_8 (w : World) : (Instr.makeSlice 22 (.int .i64 8) (.int .i64 8)).run Try.prog w = .ok (.slice (some ⟨w.heap.size, 0, none⟩) 8 8) (w.alloc zeros8) := make_ints 8 (by omega) w
theorem zeros8_row (w : World) : RowC (w.alloc zeros8) w.heap.size [0, 0, 0, 0, 0, 0, 0, 0] := ⟨_, new_at w _, rfl⟩
theorem cells_b {W : World} {a : Option Addr} {len : Nat} {l : List Bd} (h : BindsAt W (· < W.heap.size) a len l) {i : Nat} (hi : i < len) : ∃ b off, a = some ⟨b, off, none⟩ ∧ b < W.heap.size ∧ ∀ (h : i < l.length), W.cell? ⟨b, off + i * 3, none⟩ = some (.string (S l[i].work)) ∧ W.cell? ⟨b, off + i * 3 + 1, none⟩ = some (.string (S l[i].node)) ∧ W.cell? ⟨b, off + i * 3 + 2, none⟩ = some (.int .i64 l[i].cnt) := by
  obtain ⟨h0, b, off, h1, h2⟩ := h
  rcases h1 with h1 | ⟨h1, h3⟩
  · omega
  · exact ⟨b, off, h1, h3, h2 i⟩
theorem cells_n {W : World} {a : Option Addr} {len : Nat} {l : List Bs} (h : NamesAt W (· < W.heap.size) a len l) {i : Nat} (hi : i < len) : ∃ b off, a = some ⟨b, off, none⟩ ∧ b < W.heap.size ∧ ∀ (h : i < l.length), W.cell? ⟨b, off + i, none⟩ = some (.string (S l[i])) := by
  obtain ⟨h0, b, off, h1, h2⟩ := h
  rcases h1 with h1 | ⟨h1, h3⟩
  · omega
  · exact ⟨b, off, h1, h3, h2 i⟩
theorem cells_k {B : Nat} {W : World} {a : Option Addr} {len : Nat} {l : List Int} (h : KeepB B W a len l) {i : Nat} (hi : i < len) : ∃ b off, a = some ⟨b, off, none⟩ ∧ b < B ∧ ∀ (h : i < l.length), W.cell? ⟨b, off + i, none⟩ = some (.int .i64 l[i]) := by
  obtain ⟨h0, b, off, h1, h2⟩ := h
  refine ⟨b, off, ?_, (h2 i (by omega)).1, fun hl => (h2 i hl).2.1⟩
  rcases h1 with h1 | h1
  · omega
  · exact h1
theorem rep_row (w : World) (n : Nat) : RowC (w.alloc (.cells (Array.replicate n (.int .i64 0)) 3)) w.heap.size (List.replicate n 0) := ⟨_, new_at w _, by
  rw [List.length_replicate, Array.toList_replicate, List.take_of_length_le (by simp)]
  simp [numV]⟩
end Go.Proofs.Ytjkfiilnogacnaa
