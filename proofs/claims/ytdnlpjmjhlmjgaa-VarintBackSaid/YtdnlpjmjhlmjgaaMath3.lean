/-
  Plain mathematics, more: the encodings of a list of numbers, one behind the other.
-/
import Derived.Test.YtdnlpjmjhlmjgaaMath2
namespace Go.Proofs.Ytdnlpjmjhlmjgaa.Vm

/-- The encodings of numbers, one behind the other. -/
def encs (l : List Int) : List UInt8 := l.flatMap enc
theorem encs_cons (x : Int) (l : List Int) : encs (x :: l) = enc x ++ encs l := by simp [encs]
theorem encs_append (a b : List Int) : encs (a ++ b) = encs a ++ encs b := by simp [encs]
theorem encs_snoc (l : List Int) (x : Int) : encs (l ++ [x]) = encs l ++ enc x := by simp [encs]
theorem encs_length : ∀ l : List Int, l.length ≤ (encs l).length ∧ (encs l).length ≤ 10 * l.length
  | [] => by simp [encs]
  | x :: l => by
    have h1 := encs_length l
    have h2 := enc_length x
    rw [encs_cons, List.length_append, List.length_cons]
    omega

theorem encs_head {x y : Int} (hx : In x) (hy : In y) {s t : List UInt8} {n : Nat} (h1 : n = (enc x ++ s).length ∨ n = (enc y ++ t).length) (e : (enc x ++ s).take n = (enc y ++ t).take n) : x = y := by
  rcases h1 with rfl | rfl
  · rw [List.take_length] at e
    have h := List.take_append_drop (enc x ++ s).length (enc y ++ t)
    rw [← e, List.append_assoc] at h
    exact (enc_inj hx hy h).1
  · rw [List.take_length] at e
    have h := List.take_append_drop (enc y ++ t).length (enc x ++ s)
    rw [e, List.append_assoc] at h
    exact (enc_inj hx hy h.symm).1

/-- Two lists' encodings agree as far as the shorter one goes just where the lists do. -/
theorem encs_part : ∀ (a b : List Int), (∀ x ∈ a, In x) → (∀ x ∈ b, In x) →
    ((encs a).take (min (encs a).length (encs b).length) = (encs b).take (min (encs a).length (encs b).length) ↔ a.take (min a.length b.length) = b.take (min a.length b.length))
  | [], b, _, _ => by simp [encs]
  | x :: a, [], _, _ => by simp [encs]
  | x :: a, y :: b, ha, hb => by
    have hx := ha x (by simp)
    have hy := hb y (by simp)
    have ih := encs_part a b (fun z hz => ha z (by simp [hz])) (fun z hz => hb z (by simp [hz]))
    by_cases hxy : x = y
    · subst hxy
      rw [encs_cons, encs_cons]
      have e1 : min (enc x ++ encs a).length (enc x ++ encs b).length = (enc x).length + min (encs a).length (encs b).length := by simp [Nat.add_min_add_left]
      have e2 : min (x :: a).length (x :: b).length = min a.length b.length + 1 := by simp [Nat.add_min_add_right]
      rw [e1, e2, List.take_length_add_append, List.take_length_add_append, List.append_cancel_left_eq, ih, List.take_succ_cons, List.take_succ_cons]
      simp
    · constructor
      · intro e
        rw [encs_cons, encs_cons] at e
        exact absurd (encs_head hx hy (by omega) e) hxy
      · intro e
        have e2 : min (x :: a).length (y :: b).length = min a.length b.length + 1 := by simp [Nat.add_min_add_right]
        rw [e2, List.take_succ_cons, List.take_succ_cons] at e
        exact absurd (List.cons.inj e).1 hxy
end Go.Proofs.Ytdnlpjmjhlmjgaa.Vm
