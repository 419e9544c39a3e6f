/-
  Plain mathematics, more: parts laid one behind the other, read from the front.
-/
import Derived.Test.YtdnlpjmjhlmjgaaMath3
namespace Go.Proofs.Ytdnlpjmjhlmjgaa.Vm

/-- The first k parts, one behind the other. -/
def upto (part : Nat → List UInt8) (k : Nat) : List UInt8 := (List.range k).flatMap part
/-- m parts from the k-th on. -/
def from' (part : Nat → List UInt8) : Nat → Nat → List UInt8
  | 0, _ => []
  | m + 1, k => part k ++ from' part m (k + 1)
theorem upto_succ (part : Nat → List UInt8) (k : Nat) : upto part (k + 1) = upto part k ++ part k := by simp [upto, List.range_succ]
theorem upto_from (part : Nat → List UInt8) : ∀ m k : Nat, upto part k ++ from' part m k = upto part (k + m)
  | 0, k => by simp [from']
  | m + 1, k => by
    rw [from', ← List.append_assoc, ← upto_succ, upto_from part m (k + 1), show k + 1 + m = k + (m + 1) by omega]
theorem from_zero (part : Nat → List UInt8) (m : Nat) : from' part m 0 = upto part m := by
  have := upto_from part m 0
  simpa [upto] using this
theorem upto_length (part : Nat → List UInt8) (c : Nat) (h : ∀ i, (part i).length ≤ c) : ∀ k : Nat, (upto part k).length ≤ k * c
  | 0 => by simp [upto]
  | k + 1 => by
    rw [upto_succ, List.length_append, Nat.succ_mul]
    have := upto_length part c h k
    have := h k
    omega
theorem from_length (part : Nat → List UInt8) (c : Nat) (h : ∀ i, (part i).length ≤ c) : ∀ m k : Nat, (from' part m k).length ≤ m * c
  | 0, _ => by simp [from']
  | m + 1, k => by
    rw [from', List.length_append, Nat.succ_mul]
    have := from_length part c h m (k + 1)
    have := h k
    omega
end Go.Proofs.Ytdnlpjmjhlmjgaa.Vm
