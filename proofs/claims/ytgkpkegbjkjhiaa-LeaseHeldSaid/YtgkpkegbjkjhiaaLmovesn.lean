/-
  What is held behind each call, in numbers.
-/
import Derived.Test.YtgkpkegbjkjhiaaLbinds
namespace Go.Proofs.Ytgkpkegbjkjhiaa.Gm

def nm3 (j : Nat) : Bs := ([[119, 97], [119, 98], [119, 99]] : List Bs)[j]?.getD []
theorem nm3_len (j : Nat) : (nm3 j).length ≤ 2 := by
  unfold nm3
  rcases (show j = 0 ∨ j = 1 ∨ j = 2 ∨ 3 ≤ j by omega) with h | h | h | h
  all_goals first
    | (subst h; decide)
    | (rw [List.getElem?_eq_none (by simpa using h)]; decide)
def Small (l : List Bd) : Prop := l.length ≤ 20 ∧ ∀ y ∈ l, 0 ≤ y.cnt ∧ y.cnt ≤ 4 ∧ y.work.length ≤ 2
theorem bindsN_small (z : List Int) : Small (bindsN z) := ⟨bindsN_len z, fun y hy => by
  obtain ⟨x, _, rfl⟩ := List.mem_map.1 hy
  exact ⟨(bdN_ok x).1, (bdN_ok x).2.1, (bdN_ok x).2.2.1⟩⟩
theorem Small.ok {l : List Bd} (h : Small l) : OkL l := ⟨by have := h.1; omega, fun y hy => by have := h.2 y hy; omega⟩
def ownN (l : List Bd) (k : Bs) (m : Nat) : Int := sumC (l.take m) k
theorem own_step {l : List Bd} (h : Small l) (k : Bs) {m : Nat} (hm : m < l.length) : ownN l k (m + 1) = ownN l k m + (if l[m].work = k then l[m].cnt else 0) := by
  unfold ownN
  rw [List.take_succ_eq_append_getElem hm, sumC_app, sumC_cons, sumC_nil, Int.add_zero]
  have := h.2 _ (List.getElem_mem hm)
  have e : numC l[m].cnt = l[m].cnt := by unfold numC; omega
  rw [e]
theorem own_bd {l : List Bd} (h : Small l) (k : Bs) (m : Nat) : 0 ≤ ownN l k m ∧ ownN l k m ≤ 20000 := by
  have h1 := sumC_bd (l.take m) k
  have h2 := h.1
  have h3 : (l.take m).length ≤ l.length := by rw [List.length_take]; omega
  unfold ownN; omega
theorem own_all (l : List Bd) (k : Bs) : ownN l k l.length = sumC l k := by unfold ownN; rw [List.take_length]
theorem own_zero (l : List Bd) (k : Bs) : ownN l k 0 = 0 := rfl
theorem held_sent {b : Bk} (h : b.unknown = false) (v u : Int) (l : List Bd) (k : Bs) : heldB (sentB b v u l) k = max (heldB b k) (sumC l k) := by
  unfold heldB sentB
  dsimp only
  rw [h]
  exact bestG_snoc b.g ⟨v, u, l⟩ k
theorem held_learn (b : Bk) (v u : Int) (l : List Bd) (k : Bs) : heldB (learnB b v u l) k = sumC l k := by
  have := sumC_bd l k
  unfold heldB learnB bestG
  dsimp only [List.foldl]
  rw [if_neg (by simp)]
  omega
theorem held_acked {b : Bk} (h : b.unknown = false) (v : Int) (k : Bs) : heldB (ackedB b v) k ≤ heldB b k := by
  unfold heldB ackedB
  dsimp only
  rw [h]
  exact best_sub fun x hx => (List.mem_filter.1 hx).1
theorem held_pass {b : Bk} (h : b.unknown = false) (t : Int) (k : Bs) : heldB (passB b t) k ≤ heldB b k := by
  unfold heldB passB
  dsimp only
  rw [h]
  exact best_sub fun x hx => (List.mem_filter.1 hx).1
/-- What a book is behind i rounds. -/
structure MvSt (D : Bk) (i : Nat) : Prop where
  ok : OkB D
  known : D.unknown = false
  len : D.g.length ≤ i + 1
theorem MvSt.sent {D : Bk} {i : Nat} (h : MvSt D i) (hi : i < 60) {v u : Int} {l : List Bd} (hv : I64 v) (hu : I64 u) (hl : OkL l) : MvSt (sentB D v u l) (i + 1) :=
  ⟨h.ok.sent (by have := h.len; omega) hv hu hl, h.known, by have := h.len; unfold sentB; simp; omega⟩
theorem MvSt.learn {D : Bk} {i : Nat} (h : MvSt D i) {v u : Int} {l : List Bd} (hv : I64 v) (hu : I64 u) (hl : OkL l) : MvSt (learnB D v u l) (i + 1) :=
  ⟨h.ok.learn hv hu hl, rfl, by unfold learnB; simp⟩
theorem MvSt.acked {D : Bk} {i : Nat} (h : MvSt D i) (v : Int) : MvSt (ackedB D v) (i + 1) :=
  ⟨h.ok.acked v, h.known, by have := h.len; have := List.length_filter_le (fun x : Gr => decide (v ≤ x.ver)) D.g; show (D.g.filter _).length ≤ _; omega⟩
theorem MvSt.pass {D : Bk} {i : Nat} (h : MvSt D i) (t : Int) : MvSt (passB D t) (i + 1) :=
  ⟨h.ok.pass t, by unfold passB; dsimp only; rw [h.known]; rfl, by have := h.len; have := List.length_filter_le (fun x : Gr => !overN t x.unt) D.g; show (D.g.filter _).length ≤ _; omega⟩
def accA (D : Bk) (j : Nat) : Nat → Int := fun t => if t < j then heldB D (nm3 t) else 0
def accO (l : List Bd) (j m : Nat) : Nat → Int := fun t => if t < j then sumC l (nm3 t) else if t = j then ownN l (nm3 j) m else 0
theorem accA_at (D : Bk) (j : Nat) : accA D (j + 1) j = heldB D (nm3 j) := if_pos (Nat.lt_succ_self j)
theorem accA_step (D : Bk) (j : Nat) : ∀ t, t ≠ j → accA D (j + 1) t = accA D j t := fun t h => by
  unfold accA
  by_cases e : t < j
  · rw [if_pos e, if_pos (by omega)]
  · rw [if_neg e, if_neg (by omega)]
theorem accO_at (l : List Bd) (j m : Nat) : accO l j m j = ownN l (nm3 j) m := by unfold accO; rw [if_neg (Nat.lt_irrefl j), if_pos rfl]
theorem accO_step (l : List Bd) (j m m' : Nat) : ∀ t, t ≠ j → accO l j m' t = accO l j m t := fun t h => by unfold accO; rw [if_neg h, if_neg h]
theorem accO_next (l : List Bd) (j : Nat) : accO l (j + 1) 0 = accO l j l.length := by
  funext t
  unfold accO
  rw [own_all, own_zero]
  by_cases e : t < j
  · rw [if_pos e, if_pos (by omega)]
  · by_cases e' : t = j
    · subst e'; rw [if_neg e, if_pos rfl, if_pos (Nat.lt_succ_self t)]
    · rw [if_neg e, if_neg e', if_neg (by omega)]; split <;> rfl
end Go.Proofs.Ytgkpkegbjkjhiaa.Gm
