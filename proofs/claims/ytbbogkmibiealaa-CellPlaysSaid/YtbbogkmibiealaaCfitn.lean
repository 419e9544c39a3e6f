/-
  Raw binds put in order: the numbers.
-/
import Derived.Test.YtbbogkmibiealaaCmem
namespace Go.Proofs.Ytbbogkmibiealaa
open Go.RowKit Gm

namespace Gm
/-- x does not stand ahead of b. -/
def geB (x b : Bd) : Bool := !(lsB x.work b.work || decide (x.work = b.work)) || (decide (x.work = b.work) && !lsB x.node b.node)
def sameB (x b : Bd) : Bool := decide (x.work = b.work) && decide (x.node = b.node)
def insStep (b : Bd) (r : List Bd × Bool) (x : Bd) : List Bd × Bool :=
  let q := if (!r.2 && geB x b) = true then (r.1 ++ [b], true) else r
  (if sameB x b = true then q.1 else q.1 ++ [x], q.2)
def insR (b : Bd) (l : List Bd) : List Bd × Bool := l.foldl (insStep b) ([], false)
def insL (b : Bd) (l : List Bd) : List Bd := if (insR b l).2 = true then (insR b l).1 else (insR b l).1 ++ [b]
def plusB (x : Bd) : Bd := { x with cnt := x.cnt + 1 }
def fitN (z : List Bd) : List Bd := z.foldl (fun out x => insL (plusB x) out) []
def fitL (z : List Int) : List Bd := fitN (bindsN z)

theorem insStep_eval {b x : Bd} {nl : List Bd} {pf g s : Bool} (hg : geB x b = g) (hs : sameB x b = s) : insStep b (nl, pf) x = (if s = true then (if (!pf && g) = true then (nl ++ [b], true) else (nl, pf)).1 else (if (!pf && g) = true then (nl ++ [b], true) else (nl, pf)).1 ++ [x], (if (!pf && g) = true then (nl ++ [b], true) else (nl, pf)).2) := by
  unfold insStep; rw [hg, hs]
theorem insR_snoc (b : Bd) (l : List Bd) (x : Bd) : insR b (l ++ [x]) = insStep b (insR b l) x := by unfold insR; rw [List.foldl_append]; rfl
theorem fitN_snoc (z : List Bd) (x : Bd) : fitN (z ++ [x]) = insL (plusB x) (fitN z) := by unfold fitN; rw [List.foldl_append]; rfl
def wtB (b : Bool) : Nat := if b = true then 0 else 1
theorem insStep_len (b : Bd) (r : List Bd × Bool) (x : Bd) : (insStep b r x).1.length + wtB (insStep b r x).2 ≤ r.1.length + wtB r.2 + 1 := by
  unfold insStep wtB
  dsimp only
  cases h2 : r.2 <;> cases h3 : geB x b <;> cases h4 : sameB x b <;> simp [h2] <;> omega
theorem insR_len (b : Bd) (l : List Bd) : (insR b l).1.length + wtB (insR b l).2 ≤ l.length + 1 := by
  unfold insR
  have : ∀ (l : List Bd) (r : List Bd × Bool), (l.foldl (insStep b) r).1.length + wtB (l.foldl (insStep b) r).2 ≤ r.1.length + wtB r.2 + l.length := by
    intro l
    induction l with
    | nil => intro r; exact Nat.le_refl _
    | cons x l ih =>
      intro r
      have h1 := ih (insStep b r x)
      have h2 := insStep_len b r x
      simp only [List.foldl_cons, List.length_cons]
      omega
  have h := this l ([], false)
  have e : (([], false) : List Bd × Bool).1.length + wtB (([], false) : List Bd × Bool).2 = 1 := rfl
  omega
theorem insR_le (b : Bd) (l : List Bd) : (insR b l).1.length ≤ l.length + 1 := by
  have := insR_len b l
  omega
theorem insL_len (b : Bd) (l : List Bd) : (insL b l).length ≤ l.length + 1 := by
  have h := insR_len b l
  unfold insL
  cases h2 : (insR b l).2
  · rw [if_neg (by decide), List.length_append, List.length_singleton]
    rw [h2] at h
    have e : wtB false = 1 := rfl
    omega
  · rw [if_pos rfl]
    omega
theorem fitN_len (z : List Bd) : (fitN z).length ≤ z.length := by
  unfold fitN
  have : ∀ (z : List Bd) (o : List Bd), (z.foldl (fun out x => insL (plusB x) out) o).length ≤ o.length + z.length := by
    intro z
    induction z with
    | nil => intro o; simp
    | cons x z ih =>
      intro o
      have h1 := ih (insL (plusB x) o)
      have h2 := insL_len (plusB x) o
      simp only [List.foldl_cons, List.length_cons]
      omega
  simpa using this z []
/-- A bind that is there is one of those that were put there. -/
theorem insR_mem {b : Bd} {l : List Bd} {y : Bd} : y ∈ (insR b l).1 → y = b ∨ y ∈ l := by
  unfold insR
  have : ∀ (l : List Bd) (r : List Bd × Bool), y ∈ (l.foldl (insStep b) r).1 → y ∈ r.1 ∨ y = b ∨ y ∈ l := by
    intro l
    induction l with
    | nil => intro r h; exact .inl h
    | cons x l ih =>
      intro r h
      rcases ih (insStep b r x) h with h | h | h
      · unfold insStep at h
        dsimp only at h
        cases h2 : r.2 <;> cases h3 : geB x b <;> cases h4 : sameB x b <;> simp [h2, h3, h4] at h <;> grind
      · exact .inr (.inl h)
      · exact .inr (.inr (List.mem_cons_of_mem _ h))
  intro h
  rcases this l ([], false) h with h | h
  · exact absurd h List.not_mem_nil
  · exact h
theorem insL_mem {b : Bd} {l : List Bd} {y : Bd} (h : y ∈ insL b l) : y = b ∨ y ∈ l := by
  unfold insL at h
  split at h
  · exact insR_mem h
  · rcases List.mem_append.1 h with h | h
    · exact insR_mem h
    · exact .inl (by simpa using h)
theorem fitN_mem {z : List Bd} {y : Bd} (h : y ∈ fitN z) : ∃ x ∈ z, y = plusB x := by
  unfold fitN at h
  have : ∀ (z : List Bd) (o : List Bd), y ∈ z.foldl (fun out x => insL (plusB x) out) o → y ∈ o ∨ ∃ x ∈ z, y = plusB x := by
    intro z
    induction z with
    | nil => intro o h; exact .inl h
    | cons x z ih =>
      intro o h
      rcases ih _ h with h | ⟨k, hk, h⟩
      · rcases insL_mem h with h | h
        · exact .inr ⟨x, by simp, h⟩
        · exact .inl h
      · exact .inr ⟨k, List.mem_cons_of_mem _ hk, h⟩
  rcases this z [] h with h | h
  · cases h
  · exact h
theorem fitL_few (z : List Int) : (fitL z).length ≤ 20 ∧ ∀ y ∈ fitL z, (1 ≤ y.cnt ∧ y.cnt ≤ 5) ∧ y.work.length ≤ 2 ∧ y.node.length ≤ 2 := by
  unfold fitL
  refine ⟨Nat.le_trans (fitN_len _) (bindsN_len z), fun y hy => ?_⟩
  obtain ⟨x, hx, rfl⟩ := fitN_mem hy
  unfold bindsN at hx
  obtain ⟨n, _, rfl⟩ := List.mem_map.1 hx
  have := bdN_ok n
  unfold plusB
  dsimp only
  omega
theorem fitL_ok (z : List Int) : OkK (fitL z) := by
  have h := fitL_few z
  exact ⟨by omega, fun y hy => by have := h.2 y hy; unfold I64; omega⟩
end Gm
end Go.Proofs.Ytbbogkmibiealaa
