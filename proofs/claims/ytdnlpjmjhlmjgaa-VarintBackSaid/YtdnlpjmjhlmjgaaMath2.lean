/-
  Plain mathematics, more: a number and its neighbour on the other side of 0; lists of numbers.
-/
import Derived.Test.YtdnlpjmjhlmjgaaMath
namespace Go.Proofs.Ytdnlpjmjhlmjgaa.Vm

/-- An even number and the next one differ in their first byte alone, by one. -/
theorem encF_next : ∀ (k z : Nat), z % 2 = 0 → z + 1 < 2 * 128 ^ k → ∃ (x y : UInt8) (t : List UInt8), encF k z = x :: t ∧ encF k (z + 1) = y :: t ∧ y.toNat = x.toNat + 1
  | 0, z, h, hz => ⟨UInt8.ofNat z, UInt8.ofNat (z + 1), [], rfl, rfl, by rw [toNat_small (by omega), toNat_small (by omega)]⟩
  | k + 1, z, h, hz => by
    by_cases hs : z < 128
    · exact ⟨UInt8.ofNat z, UInt8.ofNat (z + 1), [], encF_small _ hs, encF_small _ (by omega), by rw [toNat_small (by omega), toNat_small (by omega)]⟩
    · refine ⟨UInt8.ofNat (z % 128 + 128), UInt8.ofNat ((z + 1) % 128 + 128), encF k (z / 128), encF_big _ hs, ?_, ?_⟩
      · rw [encF_big _ (by omega), show (z + 1) / 128 = z / 128 by omega]
      · rw [toNat_small (by omega), toNat_small (by omega)]; omega
theorem enc_next {m : Int} (h0 : 0 ≤ m) (hm : In m) : ∃ (x y : UInt8) (t : List UInt8), enc m = x :: t ∧ enc (-(m + 1)) = y :: t ∧ y.toNat = x.toNat + 1 := by
  have e1 : zig m = (2 * m).toNat := by unfold zig; rw [if_pos h0]
  have e2 : zig (-(m + 1)) = (2 * m).toNat + 1 := by unfold zig; rw [if_neg (by omega)]; omega
  have h2 := hm.2
  unfold enc
  rw [e1, e2]
  exact encF_next 9 _ (by omega) (by omega)

/-- Unlike numbers' encodings part before the shorter one ends. -/
theorem enc_part {n m : Int} (hn : In n) (hm : In m) (hne : n ≠ m) {k : Nat} (h1 : k = (enc n).length ∨ k = (enc m).length) (h2 : k ≤ (enc n).length) (h3 : k ≤ (enc m).length) : (enc n).take k ≠ (enc m).take k := by
  intro e
  apply hne
  rcases h1 with rfl | rfl
  · rw [List.take_length] at e
    have h := List.take_append_drop (enc n).length (enc m)
    rw [← e] at h
    exact (enc_inj hn hm (r' := []) (by rw [h, List.append_nil])).1
  · rw [List.take_length] at e
    have h := List.take_append_drop (enc m).length (enc n)
    rw [e] at h
    exact (enc_inj hn hm (r := []) (by rw [h, List.append_nil])).1
end Go.Proofs.Ytdnlpjmjhlmjgaa.Vm
