/-
  Trim by maps: the numbers. What is left, as a map that is made of names and numbers (the first of a name counts); what was, as a map of sums.
-/
import Derived.Test.YtjkfiilnogacnaaQtn
namespace Go.Proofs.Ytjkfiilnogacnaa.Gm

def leftF (works : List Bs) (allowed : List Int) (i : Nat) (k : Bs) : Option Int := (idxN (works.take i) k).map fun j => numC (atN allowed j)
theorem leftF_zero (works : List Bs) (allowed : List Int) (k : Bs) : leftF works allowed 0 k = none := rfl
theorem idxN_snoc {works : List Bs} {n : Nat} (h : n < works.length) (k : Bs) : idxN (works.take (n + 1)) k = (idxN (works.take n) k).or (if works[n] = k then some n else none) := by
  unfold idxN
  rw [List.take_succ_eq_append_getElem h, List.findIdx?_append]
  congr 1
  by_cases hw : works[n] = k
  · simp [hw, List.findIdx?_cons, List.length_take]; omega
  · simp [hw, List.findIdx?_cons]
theorem leftF_snoc {works : List Bs} {allowed : List Int} {i : Nat} (h : i < works.length) (k : Bs) :
    leftF works allowed (i + 1) k = if k = works[i] ∧ (leftF works allowed i k).isSome = false then some (numC (atN allowed i)) else leftF works allowed i k := by
  unfold leftF
  rw [idxN_snoc h]
  cases hi : idxN (works.take i) k with
  | some j => simp
  | none =>
    by_cases hw : works[i] = k
    · simp [hw]
    · have : ¬ k = works[i] := fun e => hw e.symm
      simp [hw, this]
theorem leftF_all (works : List Bs) (allowed : List Int) (k : Bs) : (leftF works allowed works.length k).getD 0 = allowN works allowed k := by
  unfold leftF allowN
  rw [List.take_length]
  show _ = match idxN works k with | some i => numC (allowed[i]?.getD 0) | none => 0
  cases h : idxN works k with
  | some j => rfl
  | none => rfl
/-- The sum of those at this pair, among the first i. -/
theorem wasN_at (last : List Bd) (a b : Bd) (h1 : a.work = b.work) (h2 : a.node = b.node) : wasN last a = wasN last b := by unfold wasN; rw [h1, h2]
def wasF (last : List Bd) (i : Nat) (x : Bs × Bs) : Int := wasN (last.take i) ⟨x.1, x.2, 0⟩
theorem wasF_zero (last : List Bd) (x : Bs × Bs) : wasF last 0 x = 0 := rfl
theorem wasF_snoc {last : List Bd} {i : Nat} (h : i < last.length) (x : Bs × Bs) : wasF last (i + 1) x = if x = (last[i].work, last[i].node) then wasF last i x + numC last[i].cnt else wasF last i x := by
  unfold wasF
  rw [wasN_snoc h]
  obtain ⟨a, b⟩ := x
  by_cases e : (a, b) = (last[i].work, last[i].node)
  · injection e with e1 e2
    subst e1 e2
    simp
  · rw [if_neg e, if_neg]
    · omega
    · rintro ⟨h1, h2⟩
      exact e (Prod.ext h1.symm h2.symm)
theorem wasF_all (last : List Bd) (b : Bd) : wasF last last.length (b.work, b.node) = wasN last b := by
  unfold wasF
  rw [List.take_length]
  exact wasN_at _ _ _ rfl rfl
theorem wasF_bd (last : List Bd) (i : Nat) (x : Bs × Bs) : 0 ≤ wasF last i x ∧ wasF last i x ≤ 1000 * (last.length : Int) := by
  have := was_bd (last.take i) ⟨x.1, x.2, 0⟩
  rw [List.length_take] at this
  unfold wasF
  omega
/-- One bind of a pass: what it is assigned, what is left. -/
theorem pass_step (r : Bs → Int) {t : List Bd} {ms : List Int} {i : Nat} (hl : ms.length = t.length) (h : i < t.length) {m : Int} (hm : atN ms i = m) {v : Int} (hv : restU r t ms i t[i].work = v) :
    passU r t ms (i + 1) = passU r t ms i ++ [min m v] ∧ ∀ k, restU r t ms (i + 1) k = if k = t[i].work then v - min m v else restU r t ms i k := by
  refine ⟨by rw [passU_snoc r hl h, hm, hv], fun k => ?_⟩
  rw [restU_snoc r hl h, hm, hv]
  rfl
end Go.Proofs.Ytjkfiilnogacnaa.Gm
