/-
  Names and numbers in memory; rows of the call's own as these.
-/
import Derived.Test.YtjkfiilnogacnaaSn
import Derived.Test.YtjkfiilnogacnaaTn
import Derived.Test.YtjkfiilnogacnaaLbinds
namespace Go.Proofs.Ytjkfiilnogacnaa
open Go.RowKit Gm

instance : DecidableEq Bd := fun x y => if h : x.work = y.work ∧ x.node = y.node ∧ x.cnt = y.cnt then isTrue (by cases x; cases y; simp_all) else isFalse (by rintro rfl; exact h ⟨rfl, rfl, rfl⟩)
/-- THE SLICE AT a HOLDS THESE NAMES, in a block that P allows. -/
def NamesAt (W : World) (P : Nat → Prop) (a : Option Addr) (len : Nat) (l : List Bs) : Prop :=
  l.length = len ∧ ∃ b off, (len = 0 ∨ (a = some ⟨b, off, none⟩ ∧ P b)) ∧ ∀ i (h : i < l.length), W.cell? ⟨b, off + i, none⟩ = some (.string (S l[i]))
/-- As many names, and as long, as ever come up here. -/
def OkW (l : List Bs) : Prop := l.length ≤ 1048576 ∧ ∀ x ∈ l, x.length ≤ 140737488351232
abbrev numV (l : List Int) : List Value := l.map fun x => Value.int .i64 x
theorem numV_at (l : List Int) (i : Nat) (h : i < l.length) : (numV l)[i]? = some (.int .i64 l[i]) := by
  simp [numV, h]
theorem numV_len (l : List Int) : (numV l).length = l.length := by simp [numV]
/-- A row of the call's own, as numbers. -/
theorem keep_row {w : World} {base n : Nat} {v : Value} {l : List Int} (h : w.ownsRow base 3 1 v n (numV l)) (hx : ∀ x ∈ l, I64 x) : ∃ a cap, v = .slice a n cap ∧ l.length = n ∧ KeepB w.heap.size w a n l := by
  have hl : l.length = n := by have := h.1; rw [numV_len] at this; omega
  rcases h.2 with ⟨rfl, rfl⟩ | ⟨g, cap, cur, rfl, hb, hh, hle, hm, hs, ht⟩
  · have : l = [] := List.eq_nil_of_length_eq_zero hl
    subst this
    exact ⟨none, 0, rfl, rfl, rfl, 0, 0, .inl rfl, fun i hi => by simp at hi⟩
  · refine ⟨_, _, rfl, hl, hl, g, 0, .inr rfl, fun i hi => ⟨(Array.getElem?_eq_some_iff.1 hh).1, ?_, hx _ (List.getElem_mem hi)⟩⟩
    rw [Nat.zero_add, cell_of_row w g i cur 3 (0, 0) hh, ← numV_at l i hi, ← ht, List.getElem?_take_of_lt (by omega), Array.getElem?_toList]
theorem keep_bs {B B' : Nat} {W : World} {a : Option Addr} {len : Nat} {l : List Int} (h : KeepB B W a len l) (hb : B ≤ B') : KeepB B' W a len l := by
  obtain ⟨h0, b, off, h1, h2⟩ := h
  exact ⟨h0, b, off, h1, fun i hi => ⟨Nat.lt_of_lt_of_le (h2 i hi).1 hb, (h2 i hi).2⟩⟩
/-- What was held ahead of what is made later is held still. -/
theorem keep_to {B : Nat} {w w' : World} {a : Option Addr} {len : Nat} {l : List Int} (h : KeepB B w a len l) (hb : Below w.heap.size w w') (hB : B ≤ w.heap.size) : KeepB w'.heap.size w' a len l := (keep_bs (h.below (hb.mono hB)) (Nat.le_trans hB hb.size))
theorem keep_cell {B : Nat} {w : World} {a : Option Addr} {len : Nat} {l : List Int} (h : KeepB B w a len l) (hn : 0 < len) : ∃ b off, a = some ⟨b, off, none⟩ ∧ b < B ∧ ∀ i (h : i < l.length), w.cell? ⟨b, off + i, none⟩ = some (.int .i64 l[i]) := by
  obtain ⟨h0, b, off, h1, h2⟩ := h
  refine ⟨b, off, ?_, (h2 0 (by omega)).1, fun i hi => (h2 i hi).2.1⟩
  rcases h1 with h1 | h1
  · omega
  · exact h1
theorem row_moved {w w' : World} {base e size n : Nat} {v : Value} {xs : List Value} (h : w.ownsRow base e size v n xs) (hb : ∀ b, v.ownBlock = some b → w'.heap[b]? = w.heap[b]?) : w'.ownsRow base e size v n xs := by
  obtain ⟨h1, h2⟩ := h
  refine ⟨h1, ?_⟩
  rcases h2 with h2 | ⟨g, cap, cur, hv, hg, hh, r⟩
  · exact .inl h2
  · exact .inr ⟨g, cap, cur, hv, hg, by rw [hb g (by rw [hv]; rfl)]; exact hh, r⟩
theorem row_form {base e n : Nat} {v : Value} {s : Nat} {xs : List Value} {w : World} (h : w.ownsRow base e s v n xs) : ∃ a c, v = .slice a n c := by
  rcases h.2 with ⟨rfl, rfl⟩ | ⟨g, cap, cur, rfl, _⟩
  · exact ⟨none, 0, rfl⟩
  · exact ⟨_, _, rfl⟩
theorem infoInt : (Try.prog.info? 3).map (fun i => (i.zero, i.size, i.bytes)) = some (some (.int .i64 0), 1, 8) := by kernel_rfl
theorem news_one {W : World} {g : Nat} {v : Value} {t : TypeId} (h : W.heap[g]? = some (.cells #[v] t (0, 0))) : ∀ j u, [v][j]? = some u → W.cell? ((⟨g, 0, none⟩ : Addr).add j) = some u := by
  intro j u hj
  have hadd : (⟨g, 0, none⟩ : Addr).add j = ⟨g, j, none⟩ := by unfold Addr.add; split <;> simp_all
  rw [hadd, cell_of_row _ _ _ _ _ _ h]
  rw [← hj]
  cases j <;> rfl
theorem min2 (a b : Int) (ts : Array TypeId) (ty : TypeId) (w : World) : (Builtin.min_ ts ty #[.int .i64 a, .int .i64 b]).run Try.prog w = .ok (.int .i64 (min a b)) w := by
  have e : (if b < a then b else a) = min a b := by split <;> omega
  rw [run_min_int2, e]
theorem max2 (a b : Int) (ts : Array TypeId) (ty : TypeId) (w : World) : (Builtin.max_ ts ty #[.int .i64 a, .int .i64 b]).run Try.prog w = .ok (.int .i64 (max a b)) w := by
  have e : (if a < b then b else a) = max a b := by split <;> omega
  rw [run_max_int2, e]
end Go.Proofs.Ytjkfiilnogacnaa
