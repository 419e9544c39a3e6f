/-
  The eight names, and what is allowed of each: numbers and memory.
-/
import Derived.Test.YtjkfiilnogacnaaSawake
import Derived.Test.YtjkfiilnogacnaaOncen
namespace Go.Proofs.Ytjkfiilnogacnaa
open Go.RowKit Gm
namespace Gm
theorem works8_idx {i : Nat} (hi : i < 8) : works8.findIdx? (fun x => decide (x = nmW i)) = some i := by
  have : i = 0 ∨ i = 1 ∨ i = 2 ∨ i = 3 ∨ i = 4 ∨ i = 5 ∨ i = 6 ∨ i = 7 := by omega
  rcases this with rfl | rfl | rfl | rfl | rfl | rfl | rfl | rfl <;> decide
theorem allow8 (A : List Int) {i : Nat} (hi : i < 8) : allowN works8 A (nmW i) = numC (A[i]?.getD 0) := by
  unfold allowN
  rw [works8_idx hi]
theorem nmW_inj {i j : Nat} (hi : i < 8) (hj : j < 8) (h : nmW i = nmW j) : i = j := by
  have h1 := works8_idx hi
  rw [h, works8_idx hj] at h1
  injection h1 with h1
  exact h1.symm
theorem works8_at {i : Nat} (hi : i < works8.length) : works8[i] = nmW i := by simp [works8]
theorem nmW_len (i : Nat) : (nmW i).length ≤ 2 := by
  unfold nmW
  have := nm8_len i
  rw [List.length_cons]
  omega
/-- How many of each of the eight names. -/
def allOf (U : List Bd) (n : Nat) : List Int := (List.range n).map fun j => countN U (nmW j) []
theorem allOf_len (U : List Bd) (n : Nat) : (allOf U n).length = n := by simp [allOf]
theorem allOf_snoc (U : List Bd) (n : Nat) : allOf U (n + 1) = allOf U n ++ [countN U (nmW n) []] := by unfold allOf; rw [List.range_succ, List.map_append]; rfl
theorem count_zs (U : List Bd) (k : Bs) (h : SmallC U) : countN U k [] = zs (isW k) U (U.map fun b => numC b.cnt) := by
  induction U with
  | nil => rfl
  | cons x l ih =>
    have hx := h x (List.mem_cons_self ..)
    have e : numC x.cnt = x.cnt := by unfold numC; omega
    rw [countN_cons, ih fun y hy => h y (List.mem_cons_of_mem _ hy)]
    simp only [List.map_cons, zs, e, hitN, isW, decide_eq_true_eq, true_or, and_true]
theorem allOf_bd {U : List Bd} (h : SmallC U) (hl : U.length ≤ 20) (n : Nat) : ∀ x ∈ allOf U n, 0 ≤ x ∧ x ≤ 20000 := fun x hx => by
  obtain ⟨j, _, rfl⟩ := List.mem_map.1 hx
  have := countN_bd h (nmW j) []
  omega
theorem Uniq.count_le {U : List Bd} (h : Uniq U) (k : Bs) : countN U k [] ≤ 4 * (U.length : Int) := by
  have hp := h.pos
  clear h
  induction U with
  | nil => simp [countN]
  | cons x l ih =>
    have hx := hp x (List.mem_cons_self ..)
    have := ih fun y hy => hp y (List.mem_cons_of_mem _ hy)
    rw [countN_cons, List.length_cons]
    unfold hitN
    split <;> omega
/-- Where all are allowed nothing is trimmed. -/
theorem trim_same {U : List Bd} (hu : Uniq U) (hl : U.length ≤ 20) (hw : ∀ x ∈ U, ∃ i, i < 8 ∧ x.work = nmW i) (last : List Bd) : trimN U last works8 (allOf U 8) = U := by
  unfold trimN
  rw [if_pos (by rw [works8_len, allOf_len])]
  have hp : partN (allowN works8 (allOf U 8)) U last = U.map fun b => numC b.cnt := by
    refine trim_all (fun k => (allow_bd _ _ k).1) fun b hb => ?_
    obtain ⟨i, hi, e⟩ := hw b hb
    have h1 := hu.count_le (nmW i)
    have h2 := countN_bd hu.small (nmW i) []
    rw [← count_zs U _ hu.small, e, allow8 _ hi]
    have e2 : (allOf U 8)[i]?.getD 0 = countN U (nmW i) [] := by simp [allOf, hi]
    rw [e2]
    unfold numC
    omega
  rw [hp]
  exact outN_all U fun b hb => by have := hu.pos b hb; omega
end Gm

abbrev worksO : Obj := .cells #[.string { data := #[119, 97] }, .string { data := #[119, 98] }, .string { data := #[119, 99] }, .string { data := #[119, 100] }, .string { data := #[119, 101] }, .string { data := #[119, 102] }, .string { data := #[119, 103] }, .string { data := #[119, 104] }] 9 (0, 0)
theorem worksO_at {W : World} {g : Nat} (h : W.heap[g]? = some worksO) {i : Nat} (hi : i < 8) : W.cell? ⟨g, i, none⟩ = some (.string (S (nmW i))) := by
  rw [cell_of_row _ _ _ _ _ _ h]
  have : i = 0 ∨ i = 1 ∨ i = 2 ∨ i = 3 ∨ i = 4 ∨ i = 5 ∨ i = 6 ∨ i = 7 := by omega
  rcases this with rfl | rfl | rfl | rfl | rfl | rfl | rfl | rfl <;> rfl
theorem worksO_names {W : World} {g : Nat} (h : W.heap[g]? = some worksO) : NamesAt W (· < W.heap.size) (some ⟨g, 0, none⟩) 8 works8 := by
  refine ⟨rfl, g, 0, .inr ⟨rfl, (Array.getElem?_eq_some_iff.1 h).1⟩, fun i hi => ?_⟩
  rw [Nat.zero_add, works8_at hi]
  exact worksO_at h hi
theorem names_up {W W' : World} {a : Option Addr} {len : Nat} {l : List Bs} (h : NamesAt W (· < W.heap.size) a len l) (hb : Below W.heap.size W W') : NamesAt W' (· < W'.heap.size) a len l := by
  obtain ⟨h0, b, off, h1, h2⟩ := h
  refine ⟨h0, b, off, h1.imp id (fun h => ⟨h.1, Nat.lt_of_lt_of_le h.2 hb.size⟩), fun i hi => ?_⟩
  rcases h1 with h1 | ⟨_, hl⟩
  · omega
  · exact (hb.cell (p := ⟨b, off + i, none⟩) hl).trans (h2 i hi)
theorem okl_of {l : List Bd} (h : Uniq l) (hl : l.length ≤ 1048576) : OkL l := ⟨hl, fun y hy => by have := h.pos y hy; have := h.short y hy; omega⟩
end Go.Proofs.Ytjkfiilnogacnaa
