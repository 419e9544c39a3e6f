/-
  Texts as lists of bytes.
-/
import Derived.Lib.Strings
import Derived.Laws.IdiomStrings
import Derived.Test.YtbbogkmibiealaaBase
namespace Go.Proofs.Ytbbogkmibiealaa
open Go.RowKit

theorem ret_str {a b : ByteArray} (h : a = b) : Ending.returned (.string a) = .returned (.string b) := by rw [h]
theorem I64.of {n : Int} (h : I64 n) : -9223372036854775808 ≤ n ∧ n ≤ 9223372036854775807 := h
/-- A text of these bytes. -/
def S (l : List UInt8) : ByteArray := ⟨l.toArray⟩
theorem S_list (l : List UInt8) : (S l).data.toList = l := rfl
theorem S_size (l : List UInt8) : (S l).size = l.length := by rw [Lib.size_eq]; rfl
theorem S_eq (s : ByteArray) : S s.data.toList = s := Lib.mk_data s
theorem S_toList (x : List UInt8) : (S x).toList = x := by rw [Lib.toList_data]; rfl
theorem S_beq (x y : List UInt8) : ((S x).toList == (S y).toList) = decide (x = y) := by
  rw [S_toList, S_toList]
  by_cases h : x = y
  · simp [h]
  · simp [h]
theorem S_app (l m : List UInt8) : S l ++ S m = S (l ++ m) := by
  apply ByteArray.ext
  apply Array.toList_inj.1
  rw [S_list]
  simp [S]
theorem below_dn {B : Nat} {W W' : World} (h : Below B W W') (n : Nat) : Below B W (W'.drewN n) := h.trans ⟨rfl, rfl, rfl, Nat.le_refl _, fun _ _ => rfl⟩
end Go.Proofs.Ytbbogkmibiealaa
