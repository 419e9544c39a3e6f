/-
  Share, cell by cell: the numbers.
-/
import Derived.Test.YtjkfiilnogacnaaSafen
namespace Go.Proofs.Ytjkfiilnogacnaa.Gm

def leftS : Int → List (Int × Int) → Int
  | r, [] => r
  | r, (h, t) :: l => leftS (r - usedN r h t) l
theorem shareG_snoc (x : Int × Int) : ∀ (l : List (Int × Int)) (r : Int), shareG r (l ++ [x]) = shareG r l ++ [grantN (leftS r l) x.1 x.2]
  | [], r => rfl
  | (h, t) :: l, r => by
    simp only [List.cons_append, shareG, leftS]
    rw [shareG_snoc x l]
theorem leftS_snoc (x : Int × Int) : ∀ (l : List (Int × Int)) (r : Int), leftS r (l ++ [x]) = leftS r l - usedN (leftS r l) x.1 x.2
  | [], r => rfl
  | (h, t) :: l, r => by
    simp only [List.cons_append, leftS]
    rw [leftS_snoc x l]
theorem leftS_bd : ∀ (l : List (Int × Int)) (r : Int), 0 ≤ r → 0 ≤ leftS r l ∧ leftS r l ≤ r
  | [], r, hr => by simp [leftS, hr]
  | (h, t) :: l, r, hr => by
    have h1 := used_bd r h t hr
    have := leftS_bd l (r - usedN r h t) (by omega)
    simp only [leftS]
    omega
theorem zip_snoc {a b : List Int} {i : Nat} (h : i < a.length) (h' : i < b.length) : (a.zip b).take (i + 1) = (a.zip b).take i ++ [(a[i], b[i])] := by
  have hz : i < (a.zip b).length := by rw [List.length_zip]; omega
  rw [List.take_succ_eq_append_getElem hz, List.getElem_zip]
def sumK (l : List Int) : Int := (l.map numC).sum
theorem sumK_snoc {l : List Int} {i : Nat} (h : i < l.length) : sumK (l.take (i + 1)) = sumK (l.take i) + numC l[i] := by
  unfold sumK
  rw [List.take_succ_eq_append_getElem h, List.map_append, List.sum_append]
  simp
theorem sumK_bd (l : List Int) : 0 ≤ sumK l ∧ sumK l ≤ 1000 * (l.length : Int) := by
  unfold sumK
  induction l with
  | nil => simp
  | cons x l ih =>
    have := numC_bd x
    rw [List.map_cons, List.sum_cons, List.length_cons]
    omega
theorem known_snoc {l : List Int} {i : Nat} (h : i < l.length) : knownB (l.take (i + 1)) = (knownB (l.take i) && decide (0 ≤ l[i])) := by
  unfold knownB
  rw [List.take_succ_eq_append_getElem h, List.all_append]
  simp
theorem room_le (want : Int) (held : List Int) : roomN want held ≤ 1000 := by
  have := numC_bd want
  have := sumK_bd held
  unfold sumK at this
  unfold roomN leftN
  split <;> omega
end Go.Proofs.Ytjkfiilnogacnaa.Gm
