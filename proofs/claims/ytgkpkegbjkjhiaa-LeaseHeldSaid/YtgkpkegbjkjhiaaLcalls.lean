/-
  The program's leases, called behind whatever has been laid.
-/
import Derived.Test.YtgkpkegbjkjhiaaLawake
namespace Go.Proofs.Ytgkpkegbjkjhiaa
open Go.RowKit Gm

section
variable {w W : World}
theorem until_b (hB : Below w.heap.size w W) (t : Int) (ht : I64 t) : Calls Try.prog 12 #[.int .i64 t] W fun e w' => e = .returned (.int .i64 (untilN t)) ∧ Below w.heap.size w w' :=
  (until_any t W ht).mono fun _ _ ⟨h1, h2⟩ => ⟨h1, hB.trans (h2.mono hB.size)⟩
theorem holds_b (hB : Below w.heap.size w W) (t u : Int) (ht : I64 t) (hu : I64 u) : Calls Try.prog 14 #[.int .i64 t, .int .i64 u] W fun e w' => e = .returned (.bool (holdsN t u)) ∧ Below w.heap.size w w' :=
  (holds_any t u W ht hu).mono fun _ _ ⟨h1, h2⟩ => ⟨h1, hB.trans (h2.mono hB.size)⟩
theorem over_b (hB : Below w.heap.size w W) (t u : Int) (ht : I64 t) (hu : I64 u) : Calls Try.prog 16 #[.int .i64 t, .int .i64 u] W fun e w' => e = .returned (.bool (overN t u)) ∧ Below w.heap.size w w' :=
  (over_any t u W ht hu).mono fun _ _ ⟨h1, h2⟩ => ⟨h1, hB.trans (h2.mono hB.size)⟩
end
/-- The same, where what it answers is known. -/
theorem holds_is {w W : World} (hB : Below w.heap.size w W) (t u : Int) (ht : I64 t) (hu : I64 u) {x : Bool} (hx : holdsN t u = x) : Calls Try.prog 14 #[.int .i64 t, .int .i64 u] W fun e w' => e = .returned (.bool x) ∧ Below w.heap.size w w' := hx ▸ holds_b hB t u ht hu
theorem over_is {w W : World} (hB : Below w.heap.size w W) (t u : Int) (ht : I64 t) (hu : I64 u) {x : Bool} (hx : overN t u = x) : Calls Try.prog 16 #[.int .i64 t, .int .i64 u] W fun e w' => e = .returned (.bool x) ∧ Below w.heap.size w w' := hx ▸ over_b hB t u ht hu
theorem until_is {w W : World} (hB : Below w.heap.size w W) (t : Int) (ht : I64 t) {x : Int} (hx : untilN t = x) : Calls Try.prog 12 #[.int .i64 t] W fun e w' => e = .returned (.int .i64 x) ∧ Below w.heap.size w w' := hx ▸ until_b hB t ht
theorem min2 (a b : Int) (ts : Array TypeId) (ty : TypeId) (w : World) : (Builtin.min_ ts ty #[.int .i64 a, .int .i64 b]).run Try.prog w = .ok (.int .i64 (min a b)) w := by
  have e : (if b < a then b else a) = min a b := by split <;> omega
  rw [run_min_int2, e]
theorem max2 (a b : Int) (ts : Array TypeId) (ty : TypeId) (w : World) : (Builtin.max_ ts ty #[.int .i64 a, .int .i64 b]).run Try.prog w = .ok (.int .i64 (max a b)) w := by
  have e : (if a < b then b else a) = max a b := by split <;> omega
  rw [run_max_int2, e]
end Go.Proofs.Ytgkpkegbjkjhiaa
