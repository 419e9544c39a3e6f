/-
  Leases: Holds, the document's own and the program's.
-/
import Derived.Test.YtbbogkmibiealaaCn
import Derived.Test.YtbbogkmibiealaaHeldG
namespace Go.Proofs.Ytbbogkmibiealaa
open Go.RowKit Gm

theorem qmin2 (a b : Int) (ts : Array TypeId) (ty : TypeId) (w : World) : (Builtin.min_ ts ty #[.int .i64 a, .int .i64 b]).run Try.prog w = .ok (.int .i64 (min a b)) w := by
  have e : (if b < a then b else a) = min a b := by split <;> omega
  rw [run_min_int2, e]
theorem qmax2 (a b : Int) (ts : Array TypeId) (ty : TypeId) (w : World) : (Builtin.max_ ts ty #[.int .i64 a, .int .i64 b]).run Try.prog w = .ok (.int .i64 (max a b)) w := by
  have e : (if a < b then b else a) = max a b := by split <;> omega
  rw [run_max_int2, e]
theorem qwhen_any (t : Int) (w : World) (_ht : I64 t) : Calls Try.prog 35 #[.int .i64 t] w fun e w' => e = .returned (.int .i64 (whenN t)) ∧ w = w' := by
  have h1 := qmax2 t (-1099511627776)
  obtain ⟨m, hm⟩ : ∃ m, max t (-1099511627776) = m := ⟨_, rfl⟩
  have h2 := qmin2 m 1099511627776
  have HW : Hid (whenN t = min m 1099511627776) := Lib.hid (by unfold whenN; rw [hm])
  rw [hm] at h1
  obtain ⟨r, hr⟩ : ∃ r, min m 1099511627776 = r := ⟨_, rfl⟩
  rw [hr] at h2 HW
  rw [HW.out]
  clear hm hr HW
  go_enter Try.func35, Try.ntmps35
  go_wp2
  go_ret
  exact ⟨rfl, rfl⟩
theorem qholds_any (t u : Int) (w : World) (ht : I64 t) (hu : I64 u) : Calls Try.prog 27 #[.int .i64 t, .int .i64 u] w fun e w' => e = .returned (.bool (holdsN t u)) ∧ w = w' := by
  have HP : Hid (holdsN t u = decide (whenN t < whenN u)) := Lib.hid rfl
  obtain ⟨r, hr⟩ : ∃ r, whenN t = r := ⟨_, rfl⟩
  obtain ⟨s, hs⟩ : ∃ r, whenN u = r := ⟨_, rfl⟩
  rw [hr, hs] at HP
  have HR := Lib.hid hr
  have HS := Lib.hid hs
  rw [HP.out]
  clear hr hs HP
  go_enter Try.func27, Try.ntmps27
  go_wp2_with (first
    | (go_at_call 35; (have hc := qwhen_any t w ht; rw [HR.out] at hc; with_reducible refine hc.mono ?_); rintro e w1 ⟨rfl, rfl⟩)
    | (go_at_call 35; (have hc := qwhen_any u w hu; rw [HS.out] at hc; with_reducible refine hc.mono ?_); rintro e w1 ⟨rfl, rfl⟩))
  go_ret
  exact ⟨rfl, rfl⟩
theorem limit_any (t : Int) (w : World) (_ht : I64 t) : Calls Try.prog 34 #[.int .i64 t] w fun e w' => e = .returned (.int .i64 (whenN t)) ∧ w = w' := by
  have h1 := qmax2 t (-1099511627776)
  obtain ⟨m, hm⟩ : ∃ m, max t (-1099511627776) = m := ⟨_, rfl⟩
  have h2 := qmin2 m 1099511627776
  have HW : Hid (whenN t = min m 1099511627776) := Lib.hid (by unfold whenN; rw [hm])
  rw [hm] at h1
  obtain ⟨r, hr⟩ : ∃ r, min m 1099511627776 = r := ⟨_, rfl⟩
  rw [hr] at h2 HW
  rw [HW.out]
  clear hm hr HW
  go_enter Try.func34, Try.ntmps34
  go_wp2
  go_ret
  exact ⟨rfl, rfl⟩
theorem pholds_is (t u : Int) (w : World) (ht : I64 t) (hu : I64 u) : Calls Try.prog 26 #[.int .i64 t, .int .i64 u] w fun e w' => e = .returned (.bool (holdsN t u)) ∧ w = w' := by
  have HP : Hid (holdsN t u = decide (whenN t < whenN u)) := Lib.hid rfl
  obtain ⟨r, hr⟩ : ∃ r, whenN t = r := ⟨_, rfl⟩
  obtain ⟨s, hs⟩ : ∃ r, whenN u = r := ⟨_, rfl⟩
  rw [hr, hs] at HP
  have HR := Lib.hid hr
  have HS := Lib.hid hs
  rw [HP.out]
  clear hr hs HP
  go_enter Try.func26, Try.ntmps26
  go_wp2_with (first
    | (go_at_call 34; (have hc := limit_any t w ht; rw [HR.out] at hc; with_reducible refine hc.mono ?_); rintro e w1 ⟨rfl, rfl⟩)
    | (go_at_call 34; (have hc := limit_any u w hu; rw [HS.out] at hc; with_reducible refine hc.mono ?_); rintro e w1 ⟨rfl, rfl⟩))
  go_ret
  exact ⟨rfl, rfl⟩
end Go.Proofs.Ytbbogkmibiealaa
