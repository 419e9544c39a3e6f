/-
  Bags: the numbers.
-/
import Derived.Test.YtgjpndloeegamaaTexts
namespace Go.Proofs.Ytgjpndloeegamaa.Gm

abbrev Bs := List UInt8
def inB (l : List Bs) (i : Int) : Bool := decide (0 ≤ i ∧ i < (l.length : Int))
def lookB (l : List Bs) (i : Int) : Bs := if 0 ≤ i then (l[i.toNat]?).getD [] else []
def roomB (l : List Bs) : Bool := decide (l.length < 64)
def sendB (l : List Bs) (s : Bs) : List Bs := if l.length < 64 then l ++ [s] else l
def cutB (l : List Bs) (i : Nat) : List Bs := l.take i ++ l.drop (i + 1)
def takeB (l : List Bs) (i : Int) : List Bs := if inB l i = true then cutB l i.toNat else l
def copyB (l : List Bs) (i : Int) : List Bs := if inB l i = true then sendB l (lookB l i) else l
structure OkB (l : List Bs) : Prop where
  len : l.length ≤ 64
  fit : ∀ x ∈ l, x.length ≤ 140737488351232

theorem in_yes {l : List Bs} {i : Int} (h : inB l i = true) : ∃ k : Nat, i = (k : Int) ∧ k < l.length := by
  unfold inB at h
  have := of_decide_eq_true h
  exact ⟨i.toNat, by omega, by omega⟩
theorem in_at (l : List Bs) {k : Nat} (h : k < l.length) : inB l (k : Int) = true := decide_eq_true (by omega)
theorem in_no {l : List Bs} {i : Int} (h : inB l i = false) : i < 0 ∨ (l.length : Int) ≤ i := by
  unfold inB at h
  have := of_decide_eq_false h
  omega
theorem in_out {l : List Bs} {i : Int} (h : i < 0 ∨ (l.length : Int) ≤ i) : inB l i = false := decide_eq_false (by omega)
theorem look_at (l : List Bs) {k : Nat} (h : k < l.length) : lookB l (k : Int) = l[k] := by
  unfold lookB
  rw [if_pos (by omega), Int.toNat_natCast, List.getElem?_eq_getElem h]; rfl
theorem look_no {l : List Bs} {i : Int} (h : inB l i = false) : lookB l i = [] := by
  have := in_no h
  unfold lookB
  split
  · rw [List.getElem?_eq_none (by omega)]; rfl
  · rfl
theorem take_at (l : List Bs) {k : Nat} (h : k < l.length) : takeB l (k : Int) = cutB l k := by
  unfold takeB
  rw [if_pos (in_at l h), Int.toNat_natCast]
theorem take_no {l : List Bs} {i : Int} (h : inB l i = false) : takeB l i = l := by
  unfold takeB
  rw [if_neg (by rw [h]; decide)]
theorem cut_len (l : List Bs) {k : Nat} (h : k < l.length) : (cutB l k).length + 1 = l.length := by
  unfold cutB
  rw [List.length_append, List.length_take, List.length_drop]
  omega
theorem send_yes {l : List Bs} (h : l.length < 64) (s : Bs) : sendB l s = l ++ [s] := if_pos h
theorem send_no {l : List Bs} (h : ¬ l.length < 64) (s : Bs) : sendB l s = l := if_neg h
theorem room_yes {l : List Bs} (h : l.length < 64) : roomB l = true := decide_eq_true h
theorem room_no {l : List Bs} (h : ¬ l.length < 64) : roomB l = false := decide_eq_false h
theorem OkB.nil : OkB [] := ⟨by simp, by simp⟩
theorem OkB.send {l : List Bs} (h : OkB l) {s : Bs} (hs : s.length ≤ 140737488351232) : OkB (sendB l s) := by
  unfold sendB
  split
  · refine ⟨by rw [List.length_append]; simp; omega, fun x hx => ?_⟩
    rcases List.mem_append.1 hx with hx | hx
    · exact h.fit x hx
    · obtain rfl : x = s := by simpa using hx
      exact hs
  · exact h
theorem cut_mem {l : List Bs} {k : Nat} {x : Bs} (h : x ∈ cutB l k) : x ∈ l := by
  rcases List.mem_append.1 h with h | h
  · exact List.mem_of_mem_take h
  · exact List.mem_of_mem_drop h
theorem take_mem {l : List Bs} {i : Int} {x : Bs} (h : x ∈ takeB l i) : x ∈ l := by
  unfold takeB at h
  split at h
  · exact cut_mem h
  · exact h
theorem take_len (l : List Bs) (i : Int) : (takeB l i).length ≤ l.length := by
  unfold takeB cutB
  split
  · rw [List.length_append, List.length_take, List.length_drop]; omega
  · exact Nat.le_refl _
theorem OkB.take {l : List Bs} (h : OkB l) (i : Int) : OkB (takeB l i) := ⟨Nat.le_trans (take_len l i) h.len, fun x hx => h.fit x (take_mem hx)⟩
theorem look_mem {l : List Bs} {i : Int} (h : inB l i = true) : lookB l i ∈ l := by
  obtain ⟨k, rfl, hk⟩ := in_yes h
  rw [look_at l hk]
  exact List.getElem_mem hk
theorem OkB.look {l : List Bs} (h : OkB l) (i : Int) : (lookB l i).length ≤ 140737488351232 := by
  cases hi : inB l i
  · rw [look_no hi]; simp
  · exact h.fit _ (look_mem hi)
theorem OkB.copy {l : List Bs} (h : OkB l) (i : Int) : OkB (copyB l i) := by
  unfold copyB
  split
  · exact h.send (h.look i)
  · exact h
def pk (c n : Int) : Int := (if c < 0 then -(c + 1) else c) % n
theorem pk_bd (c n : Int) (hn : 0 < n) : 0 ≤ pk c n ∧ pk c n < n := ⟨Int.emod_nonneg _ (by omega), Int.emod_lt_of_pos _ hn⟩

/-- The law's own five texts, and how many of each a list has. -/
def tx5 : List Bs := [[97], [98], [99], [100], [101]]
def nmT (k : Nat) : Bs := tx5[k]?.getD []
def In5 (l : List Bs) : Prop := ∀ x ∈ l, x ∈ tx5
def cntB (l : List Bs) (k : Nat) : Int := ((l.count (nmT k) : Nat) : Int)
theorem tx5_at {x : Bs} (h : x ∈ tx5) : ∃ k, k < 5 ∧ x = nmT k ∧ ∀ j, j < k → nmT j ≠ x := by
  simp only [tx5, List.mem_cons, List.not_mem_nil, or_false] at h
  rcases h with rfl | rfl | rfl | rfl | rfl
  · exact ⟨0, by decide, rfl, fun j hj => by omega⟩
  · exact ⟨1, by decide, rfl, fun j hj => by
      obtain rfl : j = 0 := by omega
      decide⟩
  · exact ⟨2, by decide, rfl, fun j hj => by
      have : j = 0 ∨ j = 1 := by omega
      rcases this with rfl | rfl <;> decide⟩
  · exact ⟨3, by decide, rfl, fun j hj => by
      have : j = 0 ∨ j = 1 ∨ j = 2 := by omega
      rcases this with rfl | rfl | rfl <;> decide⟩
  · exact ⟨4, by decide, rfl, fun j hj => by
      have : j = 0 ∨ j = 1 ∨ j = 2 ∨ j = 3 := by omega
      rcases this with rfl | rfl | rfl | rfl <;> decide⟩
theorem nmT_mem {k : Nat} (h : k < 5) : nmT k ∈ tx5 := by
  have : k = 0 ∨ k = 1 ∨ k = 2 ∨ k = 3 ∨ k = 4 := by omega
  rcases this with rfl | rfl | rfl | rfl | rfl <;> decide
theorem nmT_inj {i j : Nat} (hi : i < 5) (hj : j < 5) (h : nmT i = nmT j) : i = j := by
  have a : i = 0 ∨ i = 1 ∨ i = 2 ∨ i = 3 ∨ i = 4 := by omega
  have b : j = 0 ∨ j = 1 ∨ j = 2 ∨ j = 3 ∨ j = 4 := by omega
  rcases a with rfl | rfl | rfl | rfl | rfl <;> rcases b with rfl | rfl | rfl | rfl | rfl <;> first | rfl | (exact absurd h (by decide))
theorem nmT_len {k : Nat} (h : k < 5) : (nmT k).length ≤ 140737488351232 := by
  have : k = 0 ∨ k = 1 ∨ k = 2 ∨ k = 3 ∨ k = 4 := by omega
  rcases this with rfl | rfl | rfl | rfl | rfl <;> decide
theorem In5.send {l : List Bs} (h : In5 l) {s : Bs} (hs : s ∈ tx5) : In5 (l ++ [s]) := fun x hx => by
  rcases List.mem_append.1 hx with hx | hx
  · exact h x hx
  · obtain rfl : x = s := by simpa using hx
    exact hs
theorem In5.take {l : List Bs} (h : In5 l) (i : Int) : In5 (takeB l i) := fun x hx => h x (take_mem hx)
theorem cnt_send (l : List Bs) {k : Nat} (j : Nat) (hk : k < 5) (hj : j < 5) : cntB (l ++ [nmT k]) j = if j = k then cntB l j + 1 else cntB l j := by
  unfold cntB
  rw [List.count_append, List.count_singleton]
  by_cases h : j = k
  · subst h; simp
  · have : ¬ nmT k = nmT j := fun e => h (nmT_inj hk hj e).symm
    rw [if_neg h]
    simp [this]
theorem cnt_cut (l : List Bs) {i k : Nat} (j : Nat) (hi : i < l.length) (hk : k < 5) (hj : j < 5) (h : l[i] = nmT k) : cntB (cutB l i) j = if j = k then cntB l j - 1 else cntB l j := by
  have e : l.count (nmT j) = (cutB l i).count (nmT j) + if j = k then 1 else 0 := by
    have hl : l = l.take i ++ l[i] :: l.drop (i + 1) := by rw [List.getElem_cons_drop, List.take_append_drop]
    have h1 : l.count (nmT j) = (l.take i ++ l[i] :: l.drop (i + 1)).count (nmT j) := congrArg _ hl
    rw [h1, h]
    unfold cutB
    rw [List.count_append, List.count_append, List.count_cons]
    by_cases e : j = k
    · subst e; simp; omega
    · have : ¬ nmT k = nmT j := fun e' => e (nmT_inj hk hj e').symm
      simp [this, e]
  unfold cntB
  split at e <;> rename_i hh
  · rw [if_pos hh]; omega
  · rw [if_neg hh]; omega
theorem cnt_bd (l : List Bs) (k : Nat) : 0 ≤ cntB l k ∧ cntB l k ≤ (l.length : Int) := by
  have := List.count_le_length (a := nmT k) (l := l)
  unfold cntB
  omega
end Go.Proofs.Ytgjpndloeegamaa.Gm
