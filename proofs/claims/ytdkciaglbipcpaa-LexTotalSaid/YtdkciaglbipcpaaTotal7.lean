/-
  In whatever order sources come, all together have as much, as numbers.
-/
import Derived.Test.YtdkciaglbipcpaaFirst7
namespace Go.Proofs.Ytdkciaglbipcpaa.Gm
open Go.Proofs.Ytdkciaglbipcpaa
theorem total_same {n : Nat} {es : List E} {a b : List Int} {wss : List (List WayE)} (h : Form n es 0 1 a wss) (h' : Form n es 0 1 b []) (ha : a.Perm (srcs es es.length)) (hb : b.Perm (srcs es es.length)) :
    sumG (fillE n es 0 1 a wss) a a.length = sumG (fillE n es 0 1 b []) b b.length := by
  have hl : a.length = b.length := (ha.trans hb.symm).length_eq
  by_cases h0 : a.length = 0
  · have e1 : a = [] := List.eq_nil_of_length_eq_zero h0
    have e2 : b = [] := List.eq_nil_of_length_eq_zero (by omega)
    subst e1 e2
    rfl
  · have n1 : a ≠ [] := fun e => h0 (by simp [e])
    have n2 : b ≠ [] := fun e => h0 (by simp [hl, e])
    exact most_same (total_most h n1 (made_all ha)) (total_most h' n2 (made_all hb)) (fun _ => rfl)
end Go.Proofs.Ytdkciaglbipcpaa.Gm
