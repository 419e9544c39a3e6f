/-
  Raw binds put in order are right.
-/
import Derived.Test.YtbbogkmibiealaaCfit
namespace Go.Proofs.Ytbbogkmibiealaa
open Go.RowKit Gm

namespace Gm
theorem lsB_eq (x y : Bs) : lsB x y = decide (x < y) := bytesLess_eq x y
theorem ls_trans {x y z : Bs} (h1 : lsB x y = true) (h2 : lsB y z = true) : lsB x z = true := by
  rw [lsB_eq] at *
  exact decide_eq_true (List.lt_trans (of_decide_eq_true h1) (of_decide_eq_true h2))
theorem ls_total {x y : Bs} (h1 : lsB x y = false) (h2 : x ≠ y) : lsB y x = true := by
  unfold lsB at *
  induction x generalizing y with
  | nil =>
    cases y with
    | nil => exact absurd rfl h2
    | cons b y => cases h1
  | cons a x ih =>
    cases y with
    | nil => rfl
    | cons b y =>
      unfold Op.bytesLess at h1 ⊢
      simp only [Bool.or_eq_false_iff, decide_eq_false_iff_not, Bool.or_eq_true, decide_eq_true_eq, Bool.and_eq_true, beq_iff_eq, Bool.and_eq_false_iff] at h1 ⊢
      by_cases hab : a = b
      · subst hab
        have h3 : x ≠ y := fun e => h2 (by rw [e])
        refine .inr ⟨rfl, ih ?_ h3⟩
        rcases h1.2 with h | h
        · simp at h
        · exact h
      · left
        have := h1.1
        rcases Nat.lt_trichotomy a.toNat b.toNat with h | h | h
        · exact absurd (UInt8.lt_iff_toNat_lt.2 h) this
        · exact absurd (UInt8.toNat_inj.1 h) hab
        · exact UInt8.lt_iff_toNat_lt.2 h
theorem ls_irr' (x : Bs) : lsB x x = false := ls_irr x
theorem up_trans {a b c : Bd} (h1 : upB a b = true) (h2 : upB b c = true) : upB a c = true := by
  unfold upB at *
  simp only [Bool.or_eq_true, Bool.and_eq_true, decide_eq_true_eq] at *
  rcases h1 with h1 | ⟨h1, h1'⟩ <;> rcases h2 with h2 | ⟨h2, h2'⟩
  · exact .inl (ls_trans h1 h2)
  · exact .inl (by rw [← h2]; exact h1)
  · exact .inl (by rw [h1]; exact h2)
  · exact .inr ⟨h1.trans h2, ls_trans h1' h2'⟩
theorem up_irr {a b : Bd} (h : sameB a b = true) : upB a b = false := by
  unfold sameB at h
  simp only [Bool.and_eq_true, decide_eq_true_eq] at h
  unfold upB
  rw [h.1, h.2, ls_irr', ls_irr']
  simp
theorem ge_up (x b : Bd) : geB x b = !upB x b := by
  unfold geB upB
  cases h1 : lsB x.work b.work
  · by_cases h2 : x.work = b.work
    · simp [h2]
    · simp [h2]
  · have h2 : x.work ≠ b.work := fun e => by rw [e, ls_irr'] at h1; cases h1
    simp [h2]
theorem up_total {a b : Bd} (h1 : upB a b = false) (h2 : sameB a b = false) : upB b a = true := by
  unfold upB sameB at *
  by_cases hw : a.work = b.work
  · have hn : a.node ≠ b.node := by
      intro e
      rw [decide_eq_true hw, decide_eq_true e] at h2
      cases h2
    rw [hw, ls_irr', decide_eq_true rfl, Bool.false_or, Bool.true_and] at h1
    rw [hw, ls_irr', decide_eq_true rfl, ls_total h1 hn]
    rfl
  · rw [decide_eq_false hw, Bool.false_and, Bool.or_false] at h1
    rw [ls_total h1 hw]
    rfl
/-- In order, each pair once. -/
def Asc (l : List Bd) : Prop := l.Pairwise fun a b => upB a b = true
theorem same_up {x b : Bd} (h : sameB x b = true) (y : Bd) : upB x y = upB b y := by
  unfold sameB at h
  simp only [Bool.and_eq_true, decide_eq_true_eq] at h
  unfold upB
  rw [h.1, h.2]
theorem insR_asc {b : Bd} {l : List Bd} (hl : Asc l) : ∀ n, n ≤ l.length →
    ((insR b (l.take n)).2 = false → (insR b (l.take n)).1 = l.take n ∧ ∀ x ∈ l.take n, upB x b = true) ∧
    ((insR b (l.take n)).2 = true → Asc (insR b (l.take n)).1 ∧ ∃ x ∈ l.take n, upB x b = false) := by
  intro n
  induction n with
  | zero => intro _; exact ⟨fun _ => ⟨rfl, by simp⟩, fun h => by cases h⟩
  | succ n ih =>
    intro hn
    have hnl : n < l.length := by omega
    obtain ⟨i1, i2⟩ := ih (by omega)
    have hmem := fun y => insR_mem (b := b) (l := l.take n) (y := y)
    rw [List.take_succ_eq_append_getElem hnl, insR_snoc]
    have hx : ∀ y ∈ l.take n, upB y l[n] = true := fun y hy => by
      obtain ⟨i, hi, rfl⟩ := List.getElem_of_mem hy
      rw [List.length_take] at hi
      rw [List.getElem_take]
      exact List.pairwise_iff_getElem.1 hl i n (by omega) hnl (by omega)
    have ht : Asc (l.take n) := hl.sublist (List.take_sublist n l)
    obtain ⟨x, hxe⟩ : ∃ x, l[n] = x := ⟨_, rfl⟩
    rw [hxe] at hx ⊢
    obtain ⟨⟨r1, r2⟩, hr⟩ : ∃ r, insR b (l.take n) = r := ⟨_, rfl⟩
    rw [hr] at i1 i2 hmem ⊢
    dsimp only at i1 i2 hmem
    have asc_snoc : ∀ (m : List Bd) (y : Bd), Asc m → (∀ k ∈ m, upB k y = true) → Asc (m ++ [y]) := fun m y h1 h2 => List.pairwise_append.2 ⟨h1, by simp, fun k hk y' hy' => by
      obtain rfl : y' = y := by simpa using hy'
      exact h2 k hk⟩
    cases r2
    · obtain ⟨j1, j2⟩ := i1 rfl
      subst j1
      cases hu : upB x b
      · cases hs : sameB x b
        · rw [insStep_eval (g := true) (s := false) (by rw [ge_up, hu]; rfl) hs]
          refine ⟨fun h => (by cases h), fun _ => ⟨?_, x, by simp, hu⟩⟩
          exact asc_snoc _ _ (asc_snoc _ _ ht j2) fun k hk => by
            rcases List.mem_append.1 hk with hk | hk
            · exact hx k hk
            · obtain rfl : k = b := by simpa using hk
              exact up_total hu hs
        · rw [insStep_eval (g := true) (s := true) (by rw [ge_up, hu]; rfl) hs]
          exact ⟨fun h => (by cases h), fun _ => ⟨asc_snoc _ _ ht j2, x, by simp, hu⟩⟩
      · have hs : sameB x b = false := by
          cases h : sameB x b
          · rfl
          · rw [up_irr h] at hu; cases hu
        rw [insStep_eval (g := false) (s := false) (by rw [ge_up, hu]; rfl) hs]
        refine ⟨fun _ => ⟨rfl, fun k hk => ?_⟩, fun h => (by cases h)⟩
        rcases List.mem_append.1 hk with hk | hk
        · exact j2 k hk
        · obtain rfl : k = x := by simpa using hk
          exact hu
    · obtain ⟨j1, x0, j2, j3⟩ := i2 rfl
      cases hs : sameB x b
      · rw [insStep_eval (g := geB x b) (s := false) rfl hs]
        refine ⟨fun h => (by cases h), fun _ => ⟨?_, x0, List.mem_append_left _ j2, j3⟩⟩
        refine asc_snoc _ _ j1 fun k hk => ?_
        rcases hmem k hk with rfl | hk
        · cases h0 : sameB x0 k
          · exact up_trans (up_total j3 h0) (hx x0 j2)
          · rw [← same_up h0]; exact hx x0 j2
        · exact hx k hk
      · rw [insStep_eval (g := geB x b) (s := true) rfl hs]
        exact ⟨fun h => (by cases h), fun _ => ⟨j1, x0, List.mem_append_left _ j2, j3⟩⟩
theorem insL_asc {b : Bd} {l : List Bd} (hl : Asc l) : Asc (insL b l) := by
  have h := insR_asc (b := b) hl l.length (Nat.le_refl _)
  rw [List.take_length] at h
  unfold insL
  cases h2 : (insR b l).2
  · rw [if_neg (by decide)]
    obtain ⟨h3, h4⟩ := h.1 h2
    rw [h3]
    exact List.pairwise_append.2 ⟨hl, by simp, fun k hk y' hy' => by
      obtain rfl : y' = b := by simpa using hy'
      exact h4 k hk⟩
  · rw [if_pos rfl]
    exact (h.2 h2).1
theorem fitN_asc (z : List Bd) : Asc (fitN z) := by
  unfold fitN
  have : ∀ (z : List Bd) (o : List Bd), Asc o → Asc (z.foldl (fun out x => insL (plusB x) out) o) := by
    intro z
    induction z with
    | nil => intro o h; exact h
    | cons x z ih => intro o h; exact ih _ (insL_asc h)
  exact this z [] List.Pairwise.nil
theorem nm8_name (c : UInt8) (hc : chB c = true) (i : Nat) (hi : i < 8) : nameB (c :: nm8[i]?.getD []) = true := by
  have : i = 0 ∨ i = 1 ∨ i = 2 ∨ i = 3 ∨ i = 4 ∨ i = 5 ∨ i = 6 ∨ i = 7 := by omega
  rcases this with rfl | rfl | rfl | rfl | rfl | rfl | rfl | rfl <;> (unfold nameB; rw [List.all_cons, hc]; rfl)
theorem fitL_right (z : List Int) : rightL (fitL z) = true := by
  have h20 := (fitL_few z).1
  unfold rightL
  rw [decide_eq_true (by omega), Bool.true_and, List.all_eq_true]
  intro i hi
  have hi : i < (fitL z).length := List.mem_range.1 hi
  rw [step_eq hi]
  have hok : okBd (fitL z)[i] = true := by
    have hm := List.getElem_mem hi
    have hb := (fitL_few z).2 _ hm
    obtain ⟨x, hx, hxe⟩ := fitN_mem (show (fitL z)[i] ∈ fitN (bindsN z) from hm)
    unfold bindsN at hx
    obtain ⟨n, _, rfl⟩ := List.mem_map.1 hx
    rw [hxe] at hb ⊢
    unfold okBd
    have h1 : nameB (plusB (bdN n)).work = true := nm8_name 119 (by decide) _ (Nat.mod_lt _ (by omega))
    have h2 : nameB (plusB (bdN n)).node = true := nm8_name 110 (by decide) _ (Nat.mod_lt _ (by omega))
    rw [h1, h2]
    unfold frB
    rw [decide_eq_true hb.1.1, decide_eq_true (by omega)]
    rfl
  rw [hok, Bool.true_and]
  by_cases h0 : i = 0
  · rw [decide_eq_true h0]; rfl
  · have := List.pairwise_iff_getElem.1 (fitN_asc (bindsN z)) (i - 1) i (by have := hi; unfold fitL at this; omega) hi (by omega)
    rw [show upB ((fitL z)[i - 1]'(by omega)) (fitL z)[i] = true from this, Bool.or_true]
end Gm
end Go.Proofs.Ytbbogkmibiealaa
