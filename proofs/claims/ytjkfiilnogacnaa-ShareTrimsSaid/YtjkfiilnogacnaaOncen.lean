/-
  Counts of a placement, and binds of which each pair comes once: the numbers.
-/
import Derived.Test.YtjkfiilnogacnaaSmem
namespace Go.Proofs.Ytjkfiilnogacnaa.Gm

def hitN (x : Bd) (k n : Bs) : Int := if x.work = k ∧ (n = [] ∨ x.node = n) then x.cnt else 0
def countN (l : List Bd) (k n : Bs) : Int := (l.map fun x => hitN x k n).sum
theorem countN_nil (k n : Bs) : countN [] k n = 0 := rfl
theorem countN_cons (x : Bd) (l : List Bd) (k n : Bs) : countN (x :: l) k n = hitN x k n + countN l k n := by unfold countN; rw [List.map_cons, List.sum_cons]
theorem countN_app (l m : List Bd) (k n : Bs) : countN (l ++ m) k n = countN l k n + countN m k n := by unfold countN; rw [List.map_append, List.sum_append]
theorem countN_snoc {l : List Bd} {i : Nat} (h : i < l.length) (k n : Bs) : countN (l.take (i + 1)) k n = countN (l.take i) k n + hitN l[i] k n := by
  rw [List.take_succ_eq_append_getElem h, countN_app, countN_cons, countN_nil, Int.add_zero]
def SmallC (l : List Bd) : Prop := ∀ x ∈ l, 0 ≤ x.cnt ∧ x.cnt ≤ 1000
theorem hit_bd {x : Bd} (k n : Bs) (h : 0 ≤ x.cnt ∧ x.cnt ≤ 1000) : 0 ≤ hitN x k n ∧ hitN x k n ≤ 1000 := by unfold hitN; split <;> omega
theorem countN_bd {l : List Bd} (h : SmallC l) (k n : Bs) : 0 ≤ countN l k n ∧ countN l k n ≤ 1000 * (l.length : Int) := by
  induction l with
  | nil => simp [countN]
  | cons x l ih =>
    have h1 := hit_bd k n (h x (List.mem_cons_self ..))
    have := ih fun y hy => h y (List.mem_cons_of_mem _ hy)
    rw [countN_cons, List.length_cons]
    omega
theorem SmallC.take {l : List Bd} (h : SmallC l) (i : Nat) : SmallC (l.take i) := fun x hx => h x (List.mem_of_mem_take hx)
theorem countN_zero {l : List Bd} (h : ∀ x ∈ l, 0 < x.cnt) {k n : Bs} (h0 : countN l k n = 0) : ∀ y ∈ l, ¬ (y.work = k ∧ (n = [] ∨ y.node = n)) := by
  induction l with
  | nil => simp
  | cons x l ih =>
    have hx := h x (List.mem_cons_self ..)
    have hb : 0 ≤ countN l k n := by
      clear ih h0
      induction l with
      | nil => simp [countN]
      | cons z l ih =>
        have hz := h z (List.mem_cons_of_mem _ (List.mem_cons_self ..))
        have := ih fun y hy => h y (by
          rcases List.mem_cons.1 hy with e | e
          · rw [e]; exact List.mem_cons_self ..
          · exact List.mem_cons_of_mem _ (List.mem_cons_of_mem _ e))
        rw [countN_cons]
        unfold hitN
        split <;> omega
    rw [countN_cons] at h0
    intro y hy
    rcases List.mem_cons.1 hy with rfl | hy
    · intro hc
      unfold hitN at h0
      rw [if_pos hc] at h0
      omega
    · refine ih (fun z hz => h z (List.mem_cons_of_mem _ hz)) ?_ y hy
      unfold hitN at h0
      split at h0 <;> omega

def onceS (out : List Bd) (x : Bd) : List Bd := if 0 < x.cnt ∧ countN out x.work x.node = 0 then out ++ [x] else out
def onceN (l : List Bd) : List Bd := l.foldl onceS []
theorem onceN_snoc {l : List Bd} {i : Nat} (h : i < l.length) : onceN (l.take (i + 1)) = onceS (onceN (l.take i)) l[i] := by
  unfold onceN
  rw [List.take_succ_eq_append_getElem h, List.foldl_append]
  rfl
structure Uniq (l : List Bd) : Prop where
  pos : ∀ x ∈ l, 0 < x.cnt ∧ x.cnt ≤ 4 ∧ x.node ≠ []
  pw : l.Pairwise fun x y => ¬ (x.work = y.work ∧ x.node = y.node)
  short : ∀ x ∈ l, x.work.length ≤ 2 ∧ x.node.length ≤ 2
theorem Uniq.step {l : List Bd} (h : Uniq l) {x : Bd} (hx : x.cnt ≤ 4 ∧ x.node ≠ []) (hs : x.work.length ≤ 2 ∧ x.node.length ≤ 2) : Uniq (onceS l x) := by
  unfold onceS
  split
  · rename_i hc
    refine ⟨fun y hy => ?_, List.pairwise_append.2 ⟨h.pw, List.pairwise_singleton _ _, fun y hy z hz => ?_⟩, fun y hy => ?_⟩
    · rcases List.mem_append.1 hy with hy | hy
      · exact h.pos y hy
      · obtain rfl : y = x := by simpa using hy
        exact ⟨hc.1, hx⟩
    · obtain rfl : z = x := by simpa using hz
      have := countN_zero (fun y hy => (h.pos y hy).1) hc.2 y hy
      intro hc2
      exact this ⟨hc2.1, .inr hc2.2⟩
    · rcases List.mem_append.1 hy with hy | hy
      · exact h.short y hy
      · obtain rfl : y = x := by simpa using hy
        exact hs
  · exact h
theorem uniq_once (l : List Bd) (h : ∀ x ∈ l, (x.cnt ≤ 4 ∧ x.node ≠ []) ∧ x.work.length ≤ 2 ∧ x.node.length ≤ 2) : ∀ i, Uniq (onceN (l.take i))
  | 0 => ⟨by simp [onceN], by simp [onceN], by simp [onceN]⟩
  | i + 1 => by
    rcases Nat.lt_or_ge i l.length with hi | hi
    · rw [onceN_snoc hi]
      exact (uniq_once l h i).step (h _ (List.getElem_mem hi)).1 (h _ (List.getElem_mem hi)).2
    · have := uniq_once l h i
      rwa [List.take_of_length_le (by omega), ← List.take_of_length_le hi]
theorem onceS_len (out : List Bd) (x : Bd) : (onceS out x).length ≤ out.length + 1 := by
  unfold onceS
  split <;> simp
theorem once_len (l : List Bd) : ∀ i, (onceN (l.take i)).length ≤ i
  | 0 => by simp [onceN]
  | i + 1 => by
    rcases Nat.lt_or_ge i l.length with hi | hi
    · rw [onceN_snoc hi]
      have := onceS_len (onceN (l.take i)) l[i]
      have := once_len l i
      omega
    · have := once_len l i
      rw [List.take_of_length_le (by omega)]
      rw [List.take_of_length_le hi] at this
      omega
theorem once_mem (l : List Bd) : ∀ i, ∀ x ∈ onceN (l.take i), x ∈ l
  | 0 => by simp [onceN]
  | i + 1 => by
    rcases Nat.lt_or_ge i l.length with hi | hi
    · rw [onceN_snoc hi]
      intro x hx
      unfold onceS at hx
      split at hx
      · rcases List.mem_append.1 hx with hx | hx
        · exact once_mem l i x hx
        · obtain rfl : x = l[i] := by simpa using hx
          exact List.getElem_mem hi
      · exact once_mem l i x hx
    · have := once_mem l i
      rw [List.take_of_length_le hi] at this
      rwa [List.take_of_length_le (by omega)]
theorem Uniq.small {l : List Bd} (h : Uniq l) : SmallC l := fun x hx => by have := h.pos x hx; omega
/-- A raw placement, each pair once. -/
def rawN (z : List Int) : List Bd := onceN (bindsN z)
theorem rawN_uniq (z : List Int) : Uniq (rawN z) := by
  have := uniq_once (bindsN z) (fun x hx => by
    obtain ⟨y, _, rfl⟩ := List.mem_map.1 hx
    have := bdN_ok y
    exact ⟨⟨by omega, by unfold bdN; exact List.cons_ne_nil _ _⟩, by omega⟩) (bindsN z).length
  rwa [List.take_length] at this
theorem rawN_len (z : List Int) : (rawN z).length ≤ 20 := by
  have := once_len (bindsN z) (bindsN z).length
  rw [List.take_length] at this
  exact Nat.le_trans this (bindsN_len z)
theorem rawN_mem (z : List Int) : ∀ x ∈ rawN z, x ∈ bindsN z := by
  have := once_mem (bindsN z) (bindsN z).length
  rwa [List.take_length] at this
/-- The eight names. -/
def nmW (i : Nat) : Bs := 119 :: (nm8[i]?.getD [])
def works8 : List Bs := (List.range 8).map nmW
theorem works8_len : works8.length = 8 := rfl
theorem works8_ok : OkW works8 := ⟨by rw [works8_len]; omega, fun x hx => by
  obtain ⟨i, _, rfl⟩ := List.mem_map.1 hx
  have := nm8_len i
  unfold nmW
  rw [List.length_cons]
  omega⟩
theorem work_in (z : List Int) : ∀ x ∈ rawN z, ∃ i, i < 8 ∧ x.work = nmW i := fun x hx => by
  obtain ⟨y, _, rfl⟩ := List.mem_map.1 (rawN_mem z x hx)
  exact ⟨(pk y 1048576).toNat % 8, Nat.mod_lt _ (by omega), rfl⟩
end Go.Proofs.Ytjkfiilnogacnaa.Gm
