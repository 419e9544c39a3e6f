/-
  What the rows' steps share: the readings of the arguments brought into the forms that the walks take.
-/
import Derived.ProofKit
import Derived.OpenShut
import Derived.ShutString
import Derived.ChangeOld
import Derived.SizedLaws
import Derived.Test.YthbbefjgmnocdaaKit
namespace Go.Proofs.Ythbbefjgmnocdaa
open Go.ChangeShapes Go.WideShapes Go.ChangeAt Go.RowKit

theorem in_of_wf {a : Int} (h : (Lit.int .i64 a).wf = true) : I64 a := by
  have : -9223372036854775808 ≤ a ∧ a ≤ 9223372036854775807 := by simpa [Lit.wf, IntKind.min, IntKind.max, IntKind.signed, IntKind.bits] using h
  exact this
theorem u32_of_wf {a : Int} (h : (Lit.int .u32 a).wf = true) : U32 a := by
  have : 0 ≤ a ∧ a ≤ 4294967295 := by simpa [Lit.wf, IntKind.min, IntKind.max, IntKind.signed, IntKind.bits] using h
  exact ⟨this.1, by omega⟩
theorem u8_of_wf {a : Int} (h : (Lit.int .u8 a).wf = true) : 0 ≤ a ∧ a < 256 := by
  have : 0 ≤ a ∧ a ≤ 255 := by simpa [Lit.wf, IntKind.min, IntKind.max, IntKind.signed, IntKind.bits] using h
  exact ⟨this.1, by omega⟩
theorem sized_of {s : ByteArray} (h : s.data.toList.length ≤ reachBytes) : s.size ≤ 140737488351232 := by
  rw [Lib.size_eq]; simpa [reachBytes] using h
end Go.Proofs.Ythbbefjgmnocdaa
