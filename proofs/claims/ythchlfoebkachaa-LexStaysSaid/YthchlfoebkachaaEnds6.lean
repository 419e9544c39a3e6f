/-
  The program's residual capacity of an edge at a vertex, and an edge's other end.
-/
import Derived.Test.YthchlfoebkachaaSeen
import Derived.Test.YthchlfoebkachaaWay
namespace Go.Proofs.Ythchlfoebkachaa
open Go.RowKit Gm

def resF (x : E) (f u : Int) : Int := if u = x.1 then x.2.2 - f else if u = x.2.1 then f else 0
def otherF (x : E) (v : Int) : Int := if v = x.1 then x.2.1 else x.1
/-- Where nothing is left one stays. -/
theorem hop_none {x : E} {f u : Int} (hne : x.1 ≠ x.2.1) (h : resF x f u = 0) : hop x f u = u := by
  unfold resF at h
  unfold hop
  by_cases e1 : u = x.1
  · rw [if_pos e1] at h
    rw [if_neg (by omega), if_neg (by omega)]
  · rw [if_neg e1] at h
    by_cases e2 : u = x.2.1
    · rw [if_pos e2] at h
      rw [if_neg (by omega), if_neg (by omega)]
    · rw [if_neg (by omega), if_neg (by omega)]
theorem hop_other {x : E} {f u : Int} (h : resF x f u ≠ 0) (h0 : 0 ≤ f) (h1 : f ≤ x.2.2) : hop x f u = otherF x u := by
  unfold resF at h
  unfold hop otherF
  by_cases e1 : u = x.1
  · rw [if_pos e1] at h
    rw [if_pos (by omega), if_pos e1]
  · rw [if_neg e1] at h
    by_cases e2 : u = x.2.1
    · rw [if_pos e2] at h
      rw [if_neg (by omega), if_pos (by omega), if_neg e1]
    · rw [if_neg e2] at h; exact absurd rfl h
theorem resF_bd {x : E} {f u : Int} (h0 : 0 ≤ f) (h1 : f ≤ x.2.2) (h2 : x.2.2 ≤ 1000) : 0 ≤ resF x f u ∧ resF x f u ≤ 1000 := by
  unfold resF; split
  · omega
  · split <;> omega

theorem residual_any (x : E) (f u : Int) (w : World) (h0 : 0 ≤ f) (h1 : f ≤ x.2.2) (h2 : x.2.2 ≤ 1000) : Calls Try.prog 52 #[edgeV x, .int .i64 f, .int .i64 u] w fun e w' => e = .returned (.int .i64 (resF x f u)) ∧ Below w.heap.size w w' := by
  obtain ⟨a, b, c⟩ := x
  dsimp only at h1 h2
  by_cases e1 : u = a
  · have HR : Hid (resF (a, b, c) f u = c - f) := Lib.hid (by simp [resF, e1])
    subst e1
    go_enter Try.func52, Try.ntmps52
    go_wp2
    go_ret
    exact ⟨ret_int HR.out.symm, (Below.refl _ _).alloc (Nat.le_refl _) _⟩
  · by_cases e2 : u = b
    · have HR : Hid (resF (a, b, c) f u = f) := Lib.hid (by show (if u = a then _ else _) = f; rw [if_neg e1]; show (if u = b then f else 0) = f; rw [if_pos e2])
      subst e2
      have g1 : (u == a) = false := by simpa using e1
      go_enter Try.func52, Try.ntmps52
      go_wp2
      go_ret
      exact ⟨ret_int HR.out.symm, (Below.refl _ _).alloc (Nat.le_refl _) _⟩
    · have HR : Hid (resF (a, b, c) f u = 0) := Lib.hid (by simp [resF, e1, e2])
      have g1 : (u == a) = false := by simpa using e1
      have g2 : (u == b) = false := by simpa using e2
      go_enter Try.func52, Try.ntmps52
      go_wp2
      go_ret
      exact ⟨ret_int HR.out.symm, (Below.refl _ _).alloc (Nat.le_refl _) _⟩

theorem other_any (x : E) (v : Int) (w : World) : Calls Try.prog 51 #[edgeV x, .int .i64 v] w fun e w' => e = .returned (.int .i64 (otherF x v)) ∧ Below w.heap.size w w' := by
  obtain ⟨a, b, c⟩ := x
  by_cases e1 : v = a
  · have HR : Hid (otherF (a, b, c) v = b) := Lib.hid (by simp [otherF, e1])
    subst e1
    go_enter Try.func51, Try.ntmps51
    go_wp2
    go_ret
    exact ⟨ret_int HR.out.symm, (Below.refl _ _).alloc (Nat.le_refl _) _⟩
  · have HR : Hid (otherF (a, b, c) v = a) := Lib.hid (by simp [otherF, e1])
    have g1 : (v == a) = false := by simpa using e1
    go_enter Try.func51, Try.ntmps51
    go_wp2
    go_ret
    exact ⟨ret_int HR.out.symm, (Below.refl _ _).alloc (Nat.le_refl _) _⟩
end Go.Proofs.Ythchlfoebkachaa
