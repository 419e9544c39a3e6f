/-
  The fixed calls that each statement makes first; 'which of n things a raw number speaks of'.
-/
import Derived.Test.YthbbefjgmnocdaaAdd
import Derived.Test.YthbbefjgmnocdaaMath2
namespace Go.Proofs.Ythbbefjgmnocdaa
open Go.RowKit

theorem awake_any (w : World) :
    Calls Try.prog 10 #[] w fun e w' => e = .returned (.bool true) ∧ Below w.heap.size w w' := by
  go_enter Try.func10, Try.ntmps10
  go_wp2_with fail
  refine (sum_any [] _ (by simp)).mono ?_; rintro e w1 ⟨rfl, hb1⟩
  rw [show Am.sum [] = 1 by decide +kernel]
  go_wp2_with fail
  refine (sum_any [97] _ (by simp)).mono ?_; rintro e w2 ⟨rfl, hb2⟩
  rw [show Am.sum [97] = 6422626 by decide +kernel]
  go_wp2_with fail
  refine (sum_any [87, 105, 107, 105, 112, 101, 100, 105, 97] _ (by simp)).mono ?_; rintro e w3 ⟨rfl, hb3⟩
  rw [show Am.sum [87, 105, 107, 105, 112, 101, 100, 105, 97] = 300286872 by decide +kernel]
  go_wp2_with fail
  refine (sum_any [97, 98] _ (by simp)).mono ?_; rintro e w4 ⟨rfl, hb4⟩
  rw [show Am.sum [97, 98] = 19267780 by decide +kernel]
  go_wp2_with fail
  refine (roll_any _ _ _ _ _ ⟨by decide, by decide⟩ ⟨by decide, by decide⟩ ⟨by decide, by decide⟩ ⟨by decide, by decide⟩).mono ?_; rintro e w5 ⟨rfl, rfl⟩
  go_wp2_with fail
  refine (sum_any [98, 99] _ (by simp)).mono ?_; rintro e w6 ⟨rfl, hb6⟩
  rw [show Am.sum [98, 99] = Am.roll 19267780 97 99 2 by decide +kernel]
  go_wp2
  go_ret
  exact ⟨rfl, bt (bt (bt (bt hb1 hb2) hb3) hb4) hb6⟩

theorem pick_any (c n : Int) (w : World) (hc : I64 c) (hn : 1 ≤ n ∧ n ≤ 9223372036854775807) :
    Calls Try.prog 19 #[.int .i64 c, .int .i64 n] w fun e w' => e = .returned (.int .i64 (Am.pick c n)) ∧ w = w' := by
  obtain ⟨h1, h2⟩ := hc
  obtain ⟨h3, h4⟩ := hn
  have E : Hid ((if c < 0 then -(c + 1) else c).tmod n = Am.pick c n) := Lib.hid (by unfold Am.pick; rw [Int.tmod_eq_emod_of_nonneg (by split <;> omega)])
  by_cases h0 : c < 0
  · have E2 : Hid (-(c + 1).tmod n = Am.pick c n) := Lib.hid (by rw [← E.out, if_pos h0, Int.neg_tmod])
    go_enter Try.func19, Try.ntmps19
    go_wp2
    go_ret
    exact ⟨ret_int E2.out, rfl⟩
  · have E2 : Hid (c.tmod n = Am.pick c n) := Lib.hid (by rw [← E.out, if_neg h0])
    have E3 : Hid (c % n = Am.pick c n) := Lib.hid (by unfold Am.pick; rw [if_neg h0])
    go_enter Try.func19, Try.ntmps19
    go_wp2
    go_ret
    exact ⟨ret_int (by first | exact E3.out | exact E2.out), rfl⟩
end Go.Proofs.Ythbbefjgmnocdaa
