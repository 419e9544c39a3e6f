/-
  Sums over three cells.
-/
import Derived.Test.YtjkfiilnogacnaaSlists
namespace Go.Proofs.Ytjkfiilnogacnaa
namespace Gm
def upN (f : Nat → Int) : Nat → Int
  | 0 => 0
  | i + 1 => upN f i + f i
theorem upN_3 (f : Nat → Int) : upN f 3 = f 0 + f 1 + f 2 := by simp only [upN]; omega
theorem upN_bd (f : Nat → Int) (m : Int) (h : ∀ i, 0 ≤ f i ∧ f i ≤ m) : ∀ n, 0 ≤ upN f n ∧ upN f n ≤ m * n
  | 0 => by simp [upN]
  | n + 1 => by
    have := upN_bd f m h n
    have := h n
    simp only [upN]
    have e : m * ((n + 1 : Nat) : Int) = m * (n : Int) + m := by rw [Int.natCast_add, Int.natCast_one, Int.mul_add, Int.mul_one]
    omega
def anyN (f : Nat → Bool) : Nat → Bool
  | 0 => false
  | i + 1 => anyN f i || f i
theorem anyN_3 (f : Nat → Bool) : anyN f 3 = (f 0 || f 1 || f 2) := by simp [anyN]
/-- The element, and 0 beyond the end. -/
def atN (l : List Int) (i : Nat) : Int := l[i]?.getD 0
theorem atN_of {l : List Int} {i : Nat} (h : i < l.length) : l[i] = atN l i := by simp [atN, h]
theorem atN_bd {l : List Int} {a b : Int} (h0 : a ≤ 0 ∧ 0 ≤ b) (h : ∀ x ∈ l, a ≤ x ∧ x ≤ b) (i : Nat) : a ≤ atN l i ∧ atN l i ≤ b := by
  unfold atN
  rcases Nat.lt_or_ge i l.length with hi | hi
  · rw [List.getElem?_eq_getElem hi]; exact h _ (List.getElem_mem hi)
  · rw [List.getElem?_eq_none hi]; exact h0
end Gm
open Gm
theorem keep_at {B : Nat} {w : World} {a : Option Addr} {len : Nat} {l : List Int} (h : KeepB B w a len l) (hn : 0 < len) : ∃ b off, a = some ⟨b, off, none⟩ ∧ b < B ∧ ∀ i, i < len → w.cell? ⟨b, off + i, none⟩ = some (.int .i64 (atN l i)) := by
  obtain ⟨b, off, h1, h2, h3⟩ := keep_cell h hn
  refine ⟨b, off, h1, h2, fun i hi => ?_⟩
  have hl : i < l.length := by rw [h.1]; exact hi
  rw [h3 i hl, atN_of hl]
end Go.Proofs.Ytjkfiilnogacnaa
