/-
  Plain mathematics of what a sum tells: one byte that is another, two bytes that changed places, a window one byte on.
-/
import Derived.Test.YthbbefjgmnocdaaMath
namespace Go.Proofs.Ythbbefjgmnocdaa.Am

theorem lo_set (l : List UInt8) (i : Nat) (h : i < l.length) (y : UInt8) (a : Int) : lo a (l.set i y) = lo a l - (l[i].toNat : Int) + (y.toNat : Int) := by
  induction l generalizing i a with
  | nil => simp at h
  | cons x t ih =>
    cases i with
    | zero =>
      simp only [List.set_cons_zero, lo, List.getElem_cons_zero]
      rw [lo_lin t (a + (y.toNat : Int)), lo_lin t (a + (x.toNat : Int))]
      omega
    | succ i =>
      simp only [List.set_cons_succ, lo, List.getElem_cons_succ]
      exact ih i (by simpa using h) _

theorem sum_set (l : List UInt8) (i : Nat) (h : i < l.length) (y : UInt8) (hy : y ≠ l[i]) : sum (l.set i y) ≠ sum l := by
  intro e
  unfold sum at e
  rw [pack_inj, lo_set l i h y] at e
  have h1 := y.toNat_lt
  have h2 := l[i].toNat_lt
  exact hy (UInt8.toNat_inj.1 (by omega))

theorem swap_split (l : List UInt8) (i : Nat) (h : i + 1 < l.length) : l = l.take i ++ (l[i] :: l[i+1] :: l.drop (i + 2)) ∧ (l.set i l[i+1]).set (i + 1) l[i] = l.take i ++ (l[i+1] :: l[i] :: l.drop (i + 2)) := by
  induction l generalizing i with
  | nil => simp at h
  | cons x t ih =>
    cases i with
    | zero =>
      cases t with
      | nil => simp at h
      | cons y u => simp
    | succ i =>
      have := ih i (by simpa using h)
      simp only [List.set_cons_succ, List.take_succ_cons, List.drop_succ_cons, List.getElem_cons_succ, List.cons_append]
      exact ⟨by rw [← this.1], by rw [← this.2]⟩

theorem sum_swap (l : List UInt8) (i : Nat) (h : i + 1 < l.length) : sum ((l.set i l[i+1]).set (i + 1) l[i]) = sum l ↔ l[i+1] = l[i] := by
  obtain ⟨h1, h2⟩ := swap_split l i h
  rw [h2]
  generalize l[i] = x at h1 h2 ⊢
  generalize l[i+1] = y at h1 h2 ⊢
  generalize l.drop (i + 2) = d at h1 h2 ⊢
  generalize l.take i = u at h1 h2 ⊢
  constructor
  · intro e
    rw [h1] at e
    unfold sum at e
    simp only [pack_inj, lo_app, hi_app, lo, hi] at e
    obtain ⟨-, e⟩ := e
    generalize lo 1 u = p at e
    generalize hi 1 0 u = q at e
    rw [show p + (y.toNat : Int) + (x.toNat : Int) = p + (x.toNat : Int) + (y.toNat : Int) by omega] at e
    rw [hi_lin d _ (q + (p + (y.toNat : Int)) + _), hi_lin d _ (q + (p + (x.toNat : Int)) + _)] at e
    have h1 := x.toNat_lt
    have h2 := y.toNat_lt
    exact UInt8.toNat_inj.1 (by omega)
  · rintro rfl
    rw [← h1]

theorem window (l : List UInt8) (i n : Nat) (h : i + (n + 1) < l.length) : ∃ m, (l.drop i).take (n + 1) = l[i] :: m ∧ (l.drop (i + 1)).take (n + 1) = m ++ [l[i + (n + 1)]] ∧ m.length = n := by
  refine ⟨(l.drop (i + 1)).take n, ?_, ?_, ?_⟩
  · rw [List.drop_eq_getElem_cons (by omega), List.take_succ_cons]
  · rw [List.take_succ_eq_append_getElem (by rw [List.length_drop]; omega), List.getElem_drop]
    congr 2
    exact getElem_congr_idx (by omega)
  · rw [List.length_take, List.length_drop]; omega
theorem roll_window (l : List UInt8) (i n : Nat) (h : i + (n + 1) < l.length) : roll (sum ((l.drop i).take (n + 1))) (l[i].toNat : Int) (l[i + (n + 1)].toNat : Int) ((n + 1 : Nat) : Int) = sum ((l.drop (i + 1)).take (n + 1)) := by
  obtain ⟨m, h1, h2, h3⟩ := window l i n h
  have e := roll_sum l[i] l[i + (n + 1)] m
  rw [h1, h2]
  rwa [h3] at e

theorem roll_inj (a b o i n : Int) : roll a o i n = roll b o i n ↔ lowOf a = lowOf b ∧ highOf a = highOf b := by
  unfold roll
  rw [pack_inj]
  have h1 : 0 ≤ lowOf a ∧ lowOf a < 65521 := by unfold lowOf; omega
  have h2 : 0 ≤ lowOf b ∧ lowOf b < 65521 := by unfold lowOf; omega
  have h3 : 0 ≤ highOf a ∧ highOf a < 65521 := by unfold highOf; omega
  have h4 : 0 ≤ highOf b ∧ highOf b < 65521 := by unfold highOf; omega
  generalize lowOf a = p at *
  generalize lowOf b = q at *
  generalize highOf a = r at *
  generalize highOf b = t at *
  generalize n % 65521 * o = k
  omega

/-- Which of n things a raw number speaks of. -/
def pick (c n : Int) : Int := (if c < 0 then -(c + 1) else c) % n
theorem pick_bd (c n : Int) (h : 1 ≤ n) : 0 ≤ pick c n ∧ pick c n < n := ⟨Int.emod_nonneg _ (by omega), Int.emod_lt_of_pos _ (by omega)⟩

theorem xor_ne (x : UInt8) (k : Nat) (h : k < 256) (h0 : 0 < k) : x ^^^ UInt8.ofNat k ≠ x := by
  intro e
  have e1 : UInt8.ofNat k = 0 := by
    have : x ^^^ (x ^^^ UInt8.ofNat k) = x ^^^ x := by rw [e]
    rwa [← UInt8.xor_assoc, UInt8.xor_self, UInt8.zero_xor] at this
  have : (UInt8.ofNat k).toNat = 0 := by rw [e1]; rfl
  simp at this
  omega
end Go.Proofs.Ythbbefjgmnocdaa.Am
