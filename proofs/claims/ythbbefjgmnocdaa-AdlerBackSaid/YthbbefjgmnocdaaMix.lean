/-
  Join and Roll of both packages.
-/
import Derived.Test.YthbbefjgmnocdaaSmall
namespace Go.Proofs.Ythbbefjgmnocdaa
open Go.RowKit

theorem low_bd (s : Int) : 0 ≤ Am.lowOf s ∧ Am.lowOf s < 65521 := by unfold Am.lowOf; omega
theorem high_bd (s : Int) : 0 ≤ Am.highOf s ∧ Am.highOf s < 65521 := by unfold Am.highOf; omega
theorem prod_bd (n x : Int) (h : -65521 < x ∧ x < 65521) : -4293001441 ≤ n % 65521 * x ∧ n % 65521 * x ≤ 4293001441 := by
  have h1 : 0 ≤ n % 65521 ∧ n % 65521 < 65521 := by omega
  generalize n % 65521 = r at h1
  obtain ⟨x1, x2⟩ := h
  obtain ⟨r1, r2⟩ := h1
  constructor
  · have := Int.mul_le_mul_of_nonneg_left (show -65521 ≤ x by omega) r1
    have := Int.mul_le_mul_of_nonneg_right (show r ≤ 65521 by omega) (show (0:Int) ≤ 65521 by omega)
    omega
  · have := Int.mul_le_mul_of_nonneg_left (show x ≤ 65521 by omega) r1
    have := Int.mul_le_mul_of_nonneg_right (show r ≤ 65521 by omega) (show (0:Int) ≤ 65521 by omega)
    omega

theorem join_any (a b n : Int) (w : World) (ha : U32 a) (hb : U32 b) (hn : I64 n) :
    Calls Try.prog 15 #[.int .u32 a, .int .u32 b, .int .i64 n] w fun e w' => e = .returned (.int .u32 (Am.join a b n)) ∧ w = w' := by
  have E : Hid (Am.pack (Am.lowOf a + Am.lowOf b - 1) (Am.highOf a + n % 65521 * (Am.lowOf a - 1) + Am.highOf b) = Am.join a b n) := Lib.hid rfl
  have l1 := low_bd a
  have l2 := low_bd b
  have h1 := high_bd a
  have h2 := high_bd b
  have p1 := prod_bd n (Am.lowOf a - 1) (by omega)
  obtain ⟨l1a, l1b⟩ := l1
  obtain ⟨l2a, l2b⟩ := l2
  obtain ⟨h1a, h1b⟩ := h1
  obtain ⟨h2a, h2b⟩ := h2
  obtain ⟨p1a, p1b⟩ := p1
  go_enter Try.func15, Try.ntmps15
  go_wp2_with fail
  refine (halves_any _ _ ha).mono ?_; rintro e w' ⟨rfl, rfl⟩
  go_wp2_with fail
  refine (halves_any _ _ hb).mono ?_; rintro e w' ⟨rfl, rfl⟩
  go_wp2_with fail
  refine (reduce_any _ _ hn).mono ?_; rintro e w' ⟨rfl, rfl⟩
  go_wp2_with fail
  refine (checksum_any _ _ _ ⟨by omega, by omega⟩ ⟨by omega, by omega⟩).mono ?_; rintro e w' ⟨rfl, rfl⟩
  go_wp2
  go_ret
  exact ⟨ret_int E.out, rfl⟩
theorem qjoin_any (a b n : Int) (w : World) (ha : U32 a) (hb : U32 b) (hn : I64 n) :
    Calls Try.prog 16 #[.int .u32 a, .int .u32 b, .int .i64 n] w fun e w' => e = .returned (.int .u32 (Am.join a b n)) ∧ w = w' := by
  have E : Hid (Am.pack (Am.lowOf a + Am.lowOf b - 1) (Am.highOf a + n % 65521 * (Am.lowOf a - 1) + Am.highOf b) = Am.join a b n) := Lib.hid rfl
  have l1 := low_bd a
  have l2 := low_bd b
  have h1 := high_bd a
  have h2 := high_bd b
  have p1 := prod_bd n (Am.lowOf a - 1) (by omega)
  obtain ⟨l1a, l1b⟩ := l1
  obtain ⟨l2a, l2b⟩ := l2
  obtain ⟨h1a, h1b⟩ := h1
  obtain ⟨h2a, h2b⟩ := h2
  obtain ⟨p1a, p1b⟩ := p1
  go_enter Try.func16, Try.ntmps16
  go_wp2_with fail
  refine (qhalves_any _ _ ha).mono ?_; rintro e w' ⟨rfl, rfl⟩
  go_wp2_with fail
  refine (qhalves_any _ _ hb).mono ?_; rintro e w' ⟨rfl, rfl⟩
  go_wp2_with fail
  refine (times_any _ _ hn).mono ?_; rintro e w' ⟨rfl, rfl⟩
  go_wp2_with fail
  refine (made_any _ _ _ ⟨by omega, by omega⟩ ⟨by omega, by omega⟩).mono ?_; rintro e w' ⟨rfl, rfl⟩
  go_wp2
  go_ret
  exact ⟨ret_int E.out, rfl⟩
theorem roll_any (s n : Int) (o i : Int) (w : World) (hs : U32 s) (ho : 0 ≤ o ∧ o < 256) (hi : 0 ≤ i ∧ i < 256) (hn : I64 n) :
    Calls Try.prog 17 #[.int .u32 s, .int .u8 o, .int .u8 i, .int .i64 n] w fun e w' => e = .returned (.int .u32 (Am.roll s o i n)) ∧ w = w' := by
  have E : Hid (Am.pack (Am.lowOf s + (i - o)) (Am.highOf s - n % 65521 * o - 1 + (Am.lowOf s + (i - o))) = Am.roll s o i n) := Lib.hid rfl
  have l1 := low_bd s
  have h1 := high_bd s
  have p1 := prod_bd n o (by omega)
  obtain ⟨l1a, l1b⟩ := l1
  obtain ⟨h1a, h1b⟩ := h1
  obtain ⟨p1a, p1b⟩ := p1
  obtain ⟨oa, ob⟩ := ho
  obtain ⟨ia, ib⟩ := hi
  go_enter Try.func17, Try.ntmps17
  go_wp2_with fail
  refine (halves_any _ _ hs).mono ?_; rintro e w' ⟨rfl, rfl⟩
  go_wp2_with fail
  refine (reduce_any _ _ hn).mono ?_; rintro e w' ⟨rfl, rfl⟩
  go_wp2_with fail
  refine (checksum_any _ _ _ ⟨by omega, by omega⟩ ⟨by omega, by omega⟩).mono ?_; rintro e w' ⟨rfl, rfl⟩
  go_wp2
  go_ret
  exact ⟨ret_int E.out, rfl⟩
theorem qroll_any (s n : Int) (o i : Int) (w : World) (hs : U32 s) (ho : 0 ≤ o ∧ o < 256) (hi : 0 ≤ i ∧ i < 256) (hn : I64 n) :
    Calls Try.prog 18 #[.int .u32 s, .int .u8 o, .int .u8 i, .int .i64 n] w fun e w' => e = .returned (.int .u32 (Am.roll s o i n)) ∧ w = w' := by
  have E : Hid (Am.pack (Am.lowOf s - o + i) (Am.highOf s - n % 65521 * o - 1 + (Am.lowOf s - o + i)) = Am.roll s o i n) := Lib.hid (by unfold Am.roll; rw [show Am.lowOf s - o + i = Am.lowOf s + (i - o) by omega])
  have l1 := low_bd s
  have h1 := high_bd s
  have p1 := prod_bd n o (by omega)
  obtain ⟨l1a, l1b⟩ := l1
  obtain ⟨h1a, h1b⟩ := h1
  obtain ⟨p1a, p1b⟩ := p1
  obtain ⟨oa, ob⟩ := ho
  obtain ⟨ia, ib⟩ := hi
  go_enter Try.func18, Try.ntmps18
  go_wp2_with fail
  refine (qhalves_any _ _ hs).mono ?_; rintro e w' ⟨rfl, rfl⟩
  go_wp2_with fail
  refine (times_any _ _ hn).mono ?_; rintro e w' ⟨rfl, rfl⟩
  go_wp2_with fail
  refine (made_any _ _ _ ⟨by omega, by omega⟩ ⟨by omega, by omega⟩).mono ?_; rintro e w' ⟨rfl, rfl⟩
  go_wp2
  go_ret
  exact ⟨ret_int E.out, rfl⟩
end Go.Proofs.Ythbbefjgmnocdaa
