/-
  What the statement CellRuns keeps: numbers.
-/
import Derived.Test.YtbbogkmibiealaaCcalls
namespace Go.Proofs.Ytbbogkmibiealaa
open Go.RowKit Gm

namespace Gm
structure RunsI (D E : Ce) : Prop where
  n : D.n = 0
  boot : D.boot = 1
  unt : 0 ≤ D.unt ∧ D.unt ≤ 59
  eboot : E.boot = 7
  el : E.l = []
  eunt : E.unt = 0
theorem runsI_new : RunsI (newC 0 1) (newC 0 7) := ⟨rfl, rfl, by unfold newC; simp, rfl, rfl, rfl⟩
theorem fit_bd (x : GrE) : (0 ≤ (fitM x).boot ∧ (fitM x).boot ≤ 2) ∧ (0 ≤ (fitM x).ver ∧ (fitM x).ver ≤ 6) ∧ (0 ≤ (fitM x).unt ∧ (fitM x).unt ≤ 59) := by
  have h1 := pk_bd x.boot 3 (by omega)
  have h2 := pk_bd x.ver 7 (by omega)
  have h3 := pk_bd x.unt 60 (by omega)
  unfold fitM
  dsimp only
  omega
theorem RunsI.step {D E : Ce} (h : RunsI D E) (x : GrE) : RunsI (recvC D (fitM x)) (recvC E (fitM x)) := by
  obtain ⟨b1, b2, b3⟩ := fit_bd x
  obtain ⟨k1, k2⟩ := recv_keep D (fitM x)
  obtain ⟨k3, k4⟩ := recv_keep E (fitM x)
  have hu : 0 ≤ (recvC D (fitM x)).unt ∧ (recvC D (fitM x)).unt ≤ 59 := by
    unfold recvC
    split
    · unfold setC
      split
      · exact h.unt
      · exact b3
    · exact h.unt
  have he : (recvC E (fitM x)).l = E.l ∧ (recvC E (fitM x)).unt = E.unt := by
    unfold recvC
    split
    · rename_i ht
      unfold setC
      split
      · exact ⟨rfl, rfl⟩
      · rename_i hv
        exfalso
        obtain ⟨_, _, _, hn⟩ := took_right ht
        unfold newerC at hn
        rw [if_neg hv, h.eboot] at hn
        simp only [Bool.and_eq_true, decide_eq_true_eq] at hn
        omega
    · exact ⟨rfl, rfl⟩
  exact ⟨k1.trans h.n, k2.trans h.boot, hu, k4.trans h.eboot, he.1.trans h.el, he.2.trans h.eunt⟩
theorem runC_at {c : Ce} {now : Int} (hn : 0 ≤ now ∧ now ≤ 69) (hu : 0 ≤ c.unt ∧ c.unt ≤ 59) : runC c now = if now < c.unt then c.l else [] := by
  have h1 : whenN now = now := by unfold whenN; omega
  have h2 : whenN c.unt = c.unt := by unfold whenN; omega
  unfold runC holdsN
  rw [h1, h2]
  by_cases h : now < c.unt
  · rw [if_pos h, if_pos (decide_eq_true h)]
  · rw [if_neg h, if_neg (by simpa using h)]
end Gm
end Go.Proofs.Ytbbogkmibiealaa
