/-
  A region that draws its order, in a round: reads and quiet calls ahead of operations that come in the text's order, these walked in the round's fence (a call of yield among them).
-/
import Derived.Test.YthaioeebnpjajaaRound
namespace Go.Proofs.Ythaioeebnpjajaa
open Go.RowKit

section
variable {P : Program} {md : Region.Mode} {ops : Array Oper} {w : World} {Q : Exit → Act → World → Prop}

theorem opIn_of_stOp (hnd : noDefer ops = true) (l n : Nat) {i : Nat} {a : Act} {K : Act → Prop} {K' : Act → World → Prop} (h : ∀ a, K a → K' a w) (hh : stOp P ops w i K a) : wpOpIn (Fence.wide.inRound l) n P ops Q i K' a w := by
  unfold stOp at hh
  unfold wpOpIn
  match ho : ops[i]? with
  | none => simp only [ho] at hh; exact h _ hh
  | some o =>
    simp only [ho] at hh ⊢
    split
    · rename_i hw
      rw [if_pos hw] at hh
      exact oper_round (noDefer_at hnd ho) l n (Oper.wp_of_still h hh)
    · rename_i hw
      rw [if_neg hw] at hh
      exact ⟨fun _ _ => trivial, h _ hh⟩

theorem anyIn_of_head (hnd : noDefer ops = true) (l n : Nat) {k g : Nat} {L : Array Bool → Act → Prop} (hL : ∀ listed a, L listed a → wpAnyIn (Fence.wide.inRound l) n P md ops Q g listed a w) :
    ∀ (f : Nat) (listed : Array Bool) (a : Act), wpAnyL P md ops w k L f listed a → wpAnyIn (Fence.wide.inRound l) n P md ops Q (f + g) listed a w
  | 0, listed, a, h => by rw [Nat.zero_add]; exact hL _ _ h
  | f + 1, listed, a, h => by
    rw [Nat.add_right_comm]
    exact ⟨fun h0 => absurd h0 h.1, fun i hi => opIn_of_stOp hnd l n (fun a' h' => anyIn_of_head hnd l n hL f _ a' h') (h.2 i hi).2⟩

theorem anyIn_of_seq {F : Fence} {n : Nat} : ∀ (tl : List Oper) (k : Nat) (listed : Array Bool) (a : Act) (w : World), (∀ j, tl[j]? = ops[k + j]?) →
    Region.seqB md ops tl.length k listed = true → wpListIn F n P ops Q tl a w → wpAnyIn F n P md ops Q tl.length listed a w
  | [], _, _, _, _, _, hB, h => ⟨by simpa [Region.seqB] using hB, h⟩
  | o :: tl, k, listed, a, w, hl, hB, h => by
    have h0 : ops[k]? = some o := by simpa using (hl 0).symm
    simp only [List.length_cons, Region.seqB, Bool.and_eq_true, decide_eq_true_eq] at hB
    refine ⟨fun h1 => (by rw [hB.1] at h1; cases h1), fun i hi => ?_⟩
    rw [hB.1] at hi
    obtain rfl : i = k := by simpa using hi
    have step : ∀ a' w', wpListIn F n P ops Q tl a' w' → wpAnyIn F n P md ops Q tl.length (listed.setIfInBounds i true) a' w' := fun a' w' h' =>
      anyIn_of_seq tl (i + 1) _ a' w' (fun j => by have := hl (j + 1); simpa [Nat.add_assoc, Nat.add_comm 1 j] using this) hB.2 h'
    unfold wpOpIn
    simp only [h0]
    simp only [wpListIn] at h
    split
    · rename_i hw
      rw [if_pos hw] at h
      exact Oper.wpIn_mono step h
    · rename_i hw
      rw [if_neg hw] at h
      exact ⟨h.1, step _ _ h.2⟩
end

theorem region_tail_in {P : Program} {id : Nat} {Q : Exit → Act → World → Prop} {a : Act} {w : World} {ops : List Oper} {l n : Nat} (k : Nat) (hm : P.follows .mixedOrders = true) (hB : Region.lexTailB .any ops.toArray k = true) (hnd : noDefer ops.toArray = true)
    (h : wpStill P ops.toArray w.drew (fun a' => wpListIn (Fence.wide.inRound l) n P ops.toArray Q (ops.drop k) a' w.drew) (ops.take k) a) : (Code.region id ops.toArray true).wpIn (Fence.wide.inRound l) n P Q a w := by
  simp only [Region.lexTailB, Bool.and_eq_true, decide_eq_true_eq] at hB
  obtain ⟨⟨⟨⟨hsel, hk⟩, hs⟩, hc⟩, hlex⟩ := hB
  have hk' : k < ops.length := by simpa using hk
  have htl : (ops.take k).length = k := by simp; omega
  have inv : HeadInv .any ops.toArray k (Array.replicate ops.toArray.size false) :=
    ⟨by simp, fun _ _ _ h => (by rw [getD_replicate_false] at h; cases h), fun _ _ h => getD_in (by simpa using h) (getD_replicate_false _ _)⟩
  have H := wpAnyL_lex (md := .any) (g := ops.toArray.size - k) hsel hs hc hk (ops.take k) 0 _ a (fun j hj => by rw [htl] at hj; simp [hj]) (by simpa using htl) inv (by rw [htl]; exact hlex) h
  have H2 := anyIn_of_head (Q := Q) hnd l n (g := ops.toArray.size - k) (fun listed a' hL => by
    have := anyIn_of_seq (F := Fence.wide.inRound l) (n := n) (md := .any) (Q := Q) (ops.drop k) k listed a' w.drew (fun j => by simp [List.getElem?_drop]) (by simpa using hL.1) hL.2
    simpa using this) _ _ _ H
  rw [htl, show k + (ops.toArray.size - k) = ops.toArray.size by simp; omega] at H2
  exact wpIn_region_any hm H2
end Go.Proofs.Ythaioeebnpjajaa
