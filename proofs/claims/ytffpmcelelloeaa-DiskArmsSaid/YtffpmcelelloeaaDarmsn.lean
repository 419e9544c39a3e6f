/-
  The numbers of the statement DiskArms: what a disk is that was armed, behind i rounds of an Append and a Sync.
-/
import Derived.Test.YtffpmcelelloeaaHelp
namespace Go.Proofs.Ytffpmcelelloeaa.Gm

/-- Behind i rounds; sure: what was synced. -/
def ArmSt (n i : Nat) (D : Dk) (sure : Bs) : Prop :=
  sure.length ≤ 500 * i ∧
  ((2 * i < n ∧ D = ⟨if i = 0 then [] else [⟨[97], sure, sure.length⟩], 2 * i, n, false⟩) ∨
   (n ≤ 2 * i ∧ D.off = true ∧ D.acts ≤ 200 ∧ ((D.fs = [] ∧ sure = []) ∨ ∃ x, D.fs = [⟨[97], sure ++ x, sure.length⟩])))
theorem arm_start {n : Nat} (h0 : 1 ≤ n) (h1 : n ≤ 40) : armD newD (n : Int) = (⟨[], 0, n, false⟩, 0) := by
  unfold armD newD
  rw [if_neg (by omega), if_neg (by omega)]; simp
theorem ArmSt.start {n : Nat} (h0 : 1 ≤ n) : ArmSt n 0 ⟨[], 0, n, false⟩ [] := ⟨by simp, .inl ⟨by omega, rfl⟩⟩
theorem off_done {D : Dk} (h : D.off = true) (r : List Fl × Int) : doneD D r = (D, 100) := by
  unfold doneD goesD actD; simp [h]
theorem hit_done {fs : List Fl} {a n : Nat} (h : a + 1 = n) (r : List Fl × Int) : doneD ⟨fs, a, n, false⟩ r = (⟨fs, a + 1, n, true⟩, 100) := by
  unfold doneD goesD actD; simp [h]
theorem go_done {fs : List Fl} {a n : Nat} (h : a + 1 < n) (r : List Fl × Int) : doneD ⟨fs, a, n, false⟩ r = (⟨r.1, a + 1, n, false⟩, r.2) := by
  unfold doneD goesD actD
  have : ¬ a + 1 = n := by omega
  simp [this]
theorem append_a {i : Nat} {sure t : Bs} (hs : sure.length ≤ 500 * i) (hi : i < 60) (ht : t.length ≤ 500) (h0 : i = 0 → sure = []) :
    appendF (if i = 0 then [] else [⟨[97], sure, sure.length⟩]) [97] t = ([⟨[97], sure ++ t, sure.length⟩], 0) := by
  by_cases e : i = 0
  · rw [if_pos e, h0 e]
    have : ¬ 65536 < t.length := by omega
    simp [appendF, okName, findF, putF, this]
  · rw [if_neg e]
    have : ¬ 65536 < sure.length + t.length := by omega
    simp [appendF, okName, findF, putF, this]
theorem ArmSt.acts {n i : Nat} {D : Dk} {sure : Bs} (h : ArmSt n i D sure) (hi : i ≤ 60) (t : Bs) : D.acts ≤ 1099511627776 ∧ (appendD D [97] t).1.acts ≤ 1099511627776 := by
  have h1 := done_acts D (appendF D.fs [97] t)
  have h2 : D.acts ≤ 200 := by
    obtain ⟨_, ⟨_, rfl⟩ | ⟨_, _, h, _⟩⟩ := h
    · dsimp only; omega
    · exact h
  have h3 : (appendD D [97] t).1.acts ≤ D.acts + 1 := h1.2
  omega
/-- One round more. -/
theorem ArmSt.step {n i : Nat} {D : Dk} {sure t : Bs} (h : ArmSt n i D sure) (hi : i < 60) (ht : t.length ≤ 500) :
    (2 * i + 2 < n ∧ (appendD D [97] t).2 = 0 ∧ (syncD (appendD D [97] t).1 [97]).2 = 0 ∧ (syncD (appendD D [97] t).1 [97]).1.off = false ∧ ArmSt n (i + 1) (syncD (appendD D [97] t).1 [97]).1 (sure ++ t)) ∨
    (2 * i + 1 < n ∧ n ≤ 2 * i + 2 ∧ (appendD D [97] t).2 = 0 ∧ (syncD (appendD D [97] t).1 [97]).2 = 100 ∧ (syncD (appendD D [97] t).1 [97]).1.off = true ∧ ArmSt n (i + 1) (syncD (appendD D [97] t).1 [97]).1 sure) ∨
    (n ≤ 2 * i + 1 ∧ (appendD D [97] t).2 = 100 ∧ (syncD (appendD D [97] t).1 [97]).2 = 100 ∧ (syncD (appendD D [97] t).1 [97]).1.off = true ∧ ArmSt n (i + 1) (syncD (appendD D [97] t).1 [97]).1 sure) := by
  obtain ⟨hs, ⟨hlt, rfl⟩ | ⟨hle, hoff, ha, hf⟩⟩ := h
  · have h0 : i = 0 → sure = [] := fun e => by subst e; exact List.eq_nil_of_length_eq_zero (by omega)
    have ea := append_a hs hi ht h0
    by_cases h1 : 2 * i + 1 = n
    · refine .inr (.inr ⟨by omega, ?_⟩)
      unfold appendD syncD
      rw [hit_done h1, off_done rfl]
      refine ⟨rfl, rfl, rfl, by omega, .inr ⟨by omega, rfl, by dsimp only; omega, ?_⟩⟩
      by_cases e : i = 0
      · left; rw [h0 e]; dsimp only; rw [if_pos e]; exact ⟨rfl, rfl⟩
      · right; exact ⟨[], by dsimp only; rw [if_neg e]; simp⟩
    · have h2 : 2 * i + 1 < n := by omega
      unfold appendD
      rw [go_done h2]
      dsimp only
      rw [ea]
      by_cases h3 : 2 * i + 1 + 1 = n
      · refine .inr (.inl ⟨h2, by omega, rfl, ?_⟩)
        unfold syncD
        dsimp only
        rw [hit_done h3]
        exact ⟨rfl, rfl, by omega, .inr ⟨by omega, rfl, by dsimp only; omega, .inr ⟨t, rfl⟩⟩⟩
      · refine .inl ⟨by omega, rfl, ?_⟩
        unfold syncD
        dsimp only
        rw [go_done (by omega)]
        refine ⟨rfl, rfl, by rw [List.length_append]; omega, .inl ⟨by omega, ?_⟩⟩
        rw [if_neg (by omega)]
        rfl
  · refine .inr (.inr ⟨by omega, ?_⟩)
    unfold appendD
    rw [off_done hoff]
    dsimp only
    unfold syncD
    rw [off_done hoff]
    exact ⟨rfl, rfl, hoff, by omega, .inr ⟨by omega, hoff, ha, hf⟩⟩
theorem keep_zero (u : Nat) : keepN 0 u = 0 := by unfold keepN; simp
theorem cut_zero (f : Fl) : cutF f 0 = ⟨f.nm, f.tx.take f.sy, f.sy⟩ := by unfold cutF; rw [keep_zero]; simp
/-- Behind the Restart. -/
theorem ArmSt.ends {n i : Nat} {D : Dk} {sure : Bs} (h : ArmSt n i D sure) : readD (restartD D []) [97] = (sure, 0) ∨ (readD (restartD D []) [97] = ([], 101) ∧ sure = []) := by
  have one : ∀ x, readD ⟨cutsF [⟨[97], sure ++ x, sure.length⟩] [], D.acts, 0, false⟩ [97] = (sure, 0) := fun x => by
    show readD ⟨[cutF ⟨[97], sure ++ x, sure.length⟩ 0], D.acts, 0, false⟩ [97] = _
    rw [cut_zero]
    simp [readD, findF]
  obtain ⟨hs, ⟨hlt, rfl⟩ | ⟨hle, hoff, ha, ⟨hf, h0⟩ | ⟨x, hf⟩⟩⟩ := h
  · by_cases e : i = 0
    · right
      subst e
      exact ⟨rfl, List.eq_nil_of_length_eq_zero (by omega)⟩
    · left
      have := one []
      rw [List.append_nil] at this
      unfold restartD
      dsimp only at this ⊢
      rw [if_neg e]
      exact this
  · right
    refine ⟨?_, h0⟩
    unfold restartD
    rw [hf]; rfl
  · left
    unfold restartD
    rw [hf]
    exact one x
end Go.Proofs.Ytffpmcelelloeaa.Gm
