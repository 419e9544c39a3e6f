/-
  What Push and Max answer of good flows, as numbers.
-/
import Derived.Test.YtcbfgdiddhhhcaaQmax
namespace Go.Proofs.Ytcbfgdiddhhhcaa
open Go.RowKit Gm

theorem pushF_good {n : Nat} {es : List E} {fl : List Int} {s t most : Int} (h : GoodG n es fl s t) (hm : 0 ≤ most) : ∃ R : List Int × Int, pushF n es fl s t most = (R.1, R.2, 0) ∧ Gm.Rest n es s t most (fl, 0) R := by
  refine ⟨pushed n es s t most (fl, 0), ?_, pushed_is (st := (fl, 0)) h hm⟩
  unfold pushF
  rw [goodG_iff.2 h]
  simp [hm]
theorem most_some {n : Nat} {es : List E} {fl : List Int} {s t : Int} (h : GoodG n es fl s t) : ∃ M, Most n es s t M := by
  have hr := pushed_is (most := 1000000) (st := (fl, 0)) h (show (0 : Int) ≤ 1000000 by omega)
  rcases hr.full with e | e
  · have h1 := hr.more
    have h2 := hr.good.bound
    have h3 := h.bound
    dsimp only at h1
    omega
  · exact ⟨_, (most_of hr.good e).1⟩
/-- Max: a good flow with as much as can, behind which t is not reached. -/
theorem maxF_good {n : Nat} {es : List E} {s t : Int} (h : right n es = true) (s0 : 0 ≤ s) (s1 : s < n) (t0 : 0 ≤ t) (t1 : t < n) (ne : s ≠ t) : ∃ R : List Int × Int, maxF n es s t = (R.1, R.2, 0) ∧ GoodG n es R.1 s t ∧ gain (es.zip R.1) s = R.2 ∧ Most n es s t R.2 ∧ has (bfs n es R.1 s).seen t = false ∧ 0 ≤ R.2 ∧ R.2 ≤ 256000 := by
  obtain ⟨hz, hz0⟩ := GoodG.zero h s0 s1 t0 t1 ne
  have hl : min es.length 300 = es.length := by have := (right_iff.1 h).2.2.1; omega
  obtain ⟨R, hR, hr⟩ := pushF_good (most := 1073741824) hz (by omega)
  have h1 := hr.more
  have h2 := hr.good.bound
  have h3 := hr.lo
  dsimp only at h1 h3
  rw [hz0] at h1
  have hf : has (bfs n es R.1 s).seen t = false := by
    rcases hr.full with e | e
    · omega
    · exact e
  have hg : gain (es.zip R.1) s = R.2 := by omega
  refine ⟨R, by unfold maxF; rw [hl]; exact hR, hr.good, hg, ?_, hf, h3, by omega⟩
  have := (most_of hr.good hf).1
  rw [hg] at this; exact this
end Go.Proofs.Ytcbfgdiddhhhcaa
