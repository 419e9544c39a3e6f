/-
  Messages and binds in memory.
-/
import Derived.Test.YtbbogkmibiealaaCn
import Derived.Test.YtbbogkmibiealaaLbinds
namespace Go.Proofs.Ytbbogkmibiealaa
open Go.RowKit Gm

/-- A message as it is handed on: its binds at a. -/
abbrev msgV (k c b e v u : Int) (a : Option Addr) (n cap : Nat) : Value := .agg #[.int .i64 k, .int .i64 c, .int .i64 b, .int .i64 e, .int .i64 v, .int .i64 u, .slice a n cap]
abbrev msgO (k c b e v u : Int) (a : Option Addr) (n cap : Nat) : Obj := .cells #[.int .i64 k, .int .i64 c, .int .i64 b, .int .i64 e, .int .i64 v, .int .i64 u, .slice a n cap] 31 (0, 0)
theorem msg_cells {W : World} {g : Nat} {k c b e v u : Int} {a : Option Addr} {n cap : Nat} (h : W.heap[g]? = some (msgO k c b e v u a n cap)) :
    W.cell? ⟨g, 0, none⟩ = some (.int .i64 k) ∧ W.cell? ⟨g, 1, none⟩ = some (.int .i64 c) ∧ W.cell? ⟨g, 2, none⟩ = some (.int .i64 b) ∧ W.cell? ⟨g, 3, none⟩ = some (.int .i64 e) ∧ W.cell? ⟨g, 4, none⟩ = some (.int .i64 v) ∧ W.cell? ⟨g, 5, none⟩ = some (.int .i64 u) ∧ W.cell? ⟨g, 6, none⟩ = some (.slice a n cap) ∧ (∀ i, W.frozen? ⟨g, i, none⟩ = false) ∧ g < W.heap.size :=
  ⟨cell_of_row _ _ _ _ _ _ h, cell_of_row _ _ _ _ _ _ h, cell_of_row _ _ _ _ _ _ h, cell_of_row _ _ _ _ _ _ h, cell_of_row _ _ _ _ _ _ h, cell_of_row _ _ _ _ _ _ h, cell_of_row _ _ _ _ _ _ h, fun i => by simp [World.frozen?, h], (Array.getElem?_eq_some_iff.1 h).1⟩
/-- Bind i of a row that is not empty. -/
theorem BindsAt.bind {W : World} {P : Nat → Prop} {a : Option Addr} {n : Nat} {l : List Bd} (h : BindsAt W P a n l) {i : Nat} (hi : i < n) : ∃ b off, a = some ⟨b, off, none⟩ ∧ P b ∧ ∀ j (hj : j < l.length), W.cell? ⟨b, off + j * 3, none⟩ = some (.string (S l[j].work)) ∧ W.cell? ⟨b, off + j * 3 + 1, none⟩ = some (.string (S l[j].node)) ∧ W.cell? ⟨b, off + j * 3 + 2, none⟩ = some (.int .i64 l[j].cnt) := by
  obtain ⟨h0, b, off, h1, h2⟩ := h
  rcases h1 with h1 | ⟨h1, h3⟩
  · omega
  · exact ⟨b, off, h1, h3, h2⟩
theorem nums_no {k c b e v u : Int} {l : List Bd} (h : (k ≠ 1 ∧ k ≠ 2) ∨ c < 0 ∨ 3 ≤ c ∨ b < 0 ∨ 1099511627776 < b ∨ e < 0 ∨ 1099511627776 < e ∨ v < 0 ∨ 1099511627776 < v ∨ u < -2199023255552 ∨ 2199023255552 < u) : numsM ⟨k, c, b, e, v, u, l⟩ = false := by
  cases hh : numsM ⟨k, c, b, e, v, u, l⟩
  · rfl
  · exfalso
    unfold numsM frB at hh
    simp only [Bool.and_eq_true, Bool.or_eq_true, decide_eq_true_eq] at hh
    omega
theorem nums_yes {k c b e v u : Int} {l : List Bd} (h : (k = 1 ∨ k = 2) ∧ 0 ≤ c ∧ c < 3 ∧ 0 ≤ b ∧ b ≤ 1099511627776 ∧ 0 ≤ e ∧ e ≤ 1099511627776 ∧ 0 ≤ v ∧ v ≤ 1099511627776 ∧ -2199023255552 ≤ u ∧ u ≤ 2199023255552) : numsM ⟨k, c, b, e, v, u, l⟩ = true := by
  unfold numsM frB
  simp only [Bool.and_eq_true, Bool.or_eq_true, decide_eq_true_eq]
  omega
/-- One bind more is right. -/
theorem all_step {l : List Bd} {i : Nat} (h : (List.range i).all (stepB l) = true) (hs : stepB l i = true) : (List.range (i + 1)).all (stepB l) = true := by
  rw [List.range_succ, List.all_append, h]; simpa using hs
theorem step_no {l : List Bd} {i : Nat} (hi : i < l.length) (hs : stepB l i = false) : rightL l = false := by
  unfold rightL
  have : (List.range l.length).all (stepB l) = false := by
    rw [List.all_eq_false]
    exact ⟨i, List.mem_range.2 hi, by rw [hs]; decide⟩
  rw [this, Bool.and_false]
theorem right_yes {l : List Bd} (h : l.length ≤ 64) (ha : (List.range l.length).all (stepB l) = true) : rightL l = true := by
  unfold rightL; rw [ha, decide_eq_true h]; rfl
theorem right_long {l : List Bd} (h : 64 < l.length) : rightL l = false := by
  unfold rightL; rw [decide_eq_false (by omega)]; rfl
theorem step_eq {l : List Bd} {i : Nat} (hi : i < l.length) : stepB l i = (okBd l[i] && (decide (i = 0) || upB (l[i - 1]'(by omega)) l[i])) := by
  unfold stepB
  rw [List.getElem?_eq_getElem hi, List.getElem?_eq_getElem (show i - 1 < l.length by omega)]
  rfl
theorem ls_irr (x : Bs) : Op.bytesLess x x = false := by
  rw [bytesLess_eq]; exact decide_eq_false (List.lt_irrefl x)
end Go.Proofs.Ytbbogkmibiealaa
