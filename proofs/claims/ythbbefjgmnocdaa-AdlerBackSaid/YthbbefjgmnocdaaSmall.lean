/-
  The small functions of both Adler-32 packages, each by its own walk.
-/
import Derived.Test.YthbbefjgmnocdaaKit
import Derived.Test.YthbbefjgmnocdaaMath
namespace Go.Proofs.Ythbbefjgmnocdaa
open Go.RowKit

theorem tmod_pos (n : Int) : (n.tmod 65521 + 65521) % 65521 = n % 65521 := by
  rcases Int.lt_or_le n 0 with h | h
  · have e : n.tmod 65521 = -((-n) % 65521) := by rw [← Int.tmod_eq_emod_of_nonneg (by omega), Int.neg_tmod, Int.neg_neg]
    rw [e]; omega
  · rw [Int.tmod_eq_emod_of_nonneg h]; omega
theorem tmod_bd (n : Int) : -65521 < n.tmod 65521 ∧ n.tmod 65521 < 65521 := by
  rcases Int.lt_or_le n 0 with h | h
  · have e : n.tmod 65521 = -((-n) % 65521) := by rw [← Int.tmod_eq_emod_of_nonneg (by omega), Int.neg_tmod, Int.neg_neg]
    rw [e]; omega
  · rw [Int.tmod_eq_emod_of_nonneg h]; omega

theorem reduce_any (n : Int) (w : World) (hn : I64 n) :
    Calls Try.prog 23 #[.int .i64 n] w fun e w' => e = .returned (.int .i64 (n % 65521)) ∧ w = w' := by
  have E := Lib.hid (tmod_pos n)
  have hb := tmod_bd n
  obtain ⟨h1, h2⟩ := hn
  go_enter Try.func23, Try.ntmps23
  go_wp2
  go_ret
  exact ⟨ret_int E.out, rfl⟩
theorem times_any (n : Int) (w : World) (hn : I64 n) :
    Calls Try.prog 27 #[.int .i64 n] w fun e w' => e = .returned (.int .i64 (n % 65521)) ∧ w = w' := by
  have E := Lib.hid (tmod_pos n)
  have hb := tmod_bd n
  obtain ⟨h1, h2⟩ := hn
  go_enter Try.func27, Try.ntmps27
  go_wp2
  go_ret
  exact ⟨ret_int E.out, rfl⟩
theorem reduceU_any (n : Int) (w : World) (hn : U32 n) :
    Calls Try.prog 28 #[.int .u32 n] w fun e w' => e = .returned (.int .i64 (n % 65521)) ∧ w = w' := by
  obtain ⟨h1, h2⟩ := hn
  go_enter Try.func28, Try.ntmps28
  go_wp2
  go_ret
  exact ⟨ret_int (by omega), rfl⟩
theorem halves_any (n : Int) (w : World) (hn : U32 n) :
    Calls Try.prog 22 #[.int .u32 n] w fun e w' => e = .returned (.tuple #[.int .i64 (Am.lowOf n), .int .i64 (Am.highOf n)]) ∧ w = w' := by
  obtain ⟨h1, h2⟩ := hn
  go_enter Try.func22, Try.ntmps22
  go_wp2_with (go_at_call 28; refine (reduceU_any _ _ ⟨by omega, by omega⟩).mono ?_; rintro e w' ⟨rfl, rfl⟩)
  go_ret2
  exact ⟨by simp [Am.lowOf, Am.highOf], rfl⟩
theorem qhalves_any (n : Int) (w : World) (hn : U32 n) :
    Calls Try.prog 25 #[.int .u32 n] w fun e w' => e = .returned (.tuple #[.int .i64 (Am.lowOf n), .int .i64 (Am.highOf n)]) ∧ w = w' := by
  obtain ⟨h1, h2⟩ := hn
  go_enter Try.func25, Try.ntmps25
  go_wp2
  go_ret2
  exact ⟨by simp [Am.lowOf, Am.highOf], rfl⟩
theorem checksum_any (l h : Int) (w : World) (hl : I64 l) (hh : I64 h) :
    Calls Try.prog 24 #[.int .i64 l, .int .i64 h] w fun e w' => e = .returned (.int .u32 (Am.pack l h)) ∧ w = w' := by
  go_enter Try.func24, Try.ntmps24
  go_wp2_with fail
  refine (reduce_any _ _ hh).mono ?_; rintro e w' ⟨rfl, rfl⟩
  go_wp2_with fail
  refine (reduce_any _ _ hl).mono ?_; rintro e w' ⟨rfl, rfl⟩
  go_wp2
  go_ret
  exact ⟨ret_int (by unfold Am.pack; omega), rfl⟩
theorem made_any (l h : Int) (w : World) (hl : I64 l) (hh : I64 h) :
    Calls Try.prog 26 #[.int .i64 l, .int .i64 h] w fun e w' => e = .returned (.int .u32 (Am.pack l h)) ∧ w = w' := by
  have E := Lib.hid (tmod_pos l)
  have hb := tmod_bd l
  have E' := Lib.hid (tmod_pos h)
  have hb' := tmod_bd h
  obtain ⟨h1, h2⟩ := hl
  obtain ⟨h3, h4⟩ := hh
  go_enter Try.func26, Try.ntmps26
  go_wp2
  go_ret
  exact ⟨ret_int (by have := E.out; have := E'.out; unfold Am.pack; omega), rfl⟩
end Go.Proofs.Ythbbefjgmnocdaa
