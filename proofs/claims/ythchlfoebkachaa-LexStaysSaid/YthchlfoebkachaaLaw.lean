/-
  The laws' own helpers: pick, Bools.
-/
import Derived.Deep.RegionHeld3
import Derived.Test.YthchlfoebkachaaSeen
import Derived.Test.YthchlfoebkachaaMath2
namespace Go.Proofs.Ythchlfoebkachaa
open Go.RowKit Gm

theorem pick_any (c n : Int) (w : World) (hc : I64 c) (hn : 0 < n) (hn2 : n ≤ 1048576) : Calls Try.prog 28 #[.int .i64 c, .int .i64 n] w fun e w' => e = .returned (.int .i64 (pk c n)) ∧ w = w' := by
  obtain ⟨c0, c1⟩ := hc
  by_cases h : c < 0
  · have HP : Hid (pk c n = (-(c + 1)) % n) := Lib.hid (by simp [pk, h])
    have h1 : 0 ≤ -(c + 1) := by omega
    go_enter Try.func28, Try.ntmps28
    go_wp2
    go_ret
    refine ⟨ret_int ?_, rfl⟩
    rw [HP.out]
    first | rfl | rw [← Int.neg_tmod, Int.tmod_eq_emod_of_nonneg h1]
  · have HP : Hid (pk c n = c % n) := Lib.hid (by simp [pk, h])
    have h1 : 0 ≤ c := by omega
    go_enter Try.func28, Try.ntmps28
    go_wp2
    go_ret
    exact ⟨ret_int HP.out.symm, rfl⟩

end Go.Proofs.Ythchlfoebkachaa
