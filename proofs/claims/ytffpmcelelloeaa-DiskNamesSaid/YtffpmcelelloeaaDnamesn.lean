/-
  The numbers of the statement DiskNames: what is where, step by step.
-/
import Derived.Test.YtffpmcelelloeaaHelp
namespace Go.Proofs.Ytffpmcelelloeaa.Gm

theorem goes_on {l : List Fl} {n : Nat} (r : List Fl × Int) : doneD ⟨l, n, 0, false⟩ r = (⟨r.1, n + 1, 0, false⟩, r.2) := by
  unfold doneD goesD actD; simp
theorem dn1 {o : Bs} (h : o.length ≤ 500) : appendD newD [97] o = (⟨[⟨[97], o, 0⟩], 1, 0, false⟩, 0) := by
  unfold appendD newD
  rw [goes_on]
  have : ¬ 65536 < o.length := by omega
  simp [appendF, okName, findF, putF, this]
theorem dn2 (o : Bs) : syncD ⟨[⟨[97], o, 0⟩], 1, 0, false⟩ [97] = (⟨[⟨[97], o, o.length⟩], 2, 0, false⟩, 0) := rfl
theorem dn3 {o m : Bs} (h : o.length ≤ 500) (k : m.length ≤ 500) : appendD ⟨[⟨[97], o, o.length⟩], 2, 0, false⟩ [97] m = (⟨[⟨[97], o ++ m, o.length⟩], 3, 0, false⟩, 0) := by
  unfold appendD
  rw [goes_on]
  have : ¬ 65536 < o.length + m.length := by omega
  simp [appendF, okName, findF, putF, this]
theorem dn4 {x : Bs} {n : Nat} {r : Bs} (h : r.length ≤ 500) : appendD ⟨[⟨[97], x, n⟩], 3, 0, false⟩ [98] r = (⟨[⟨[97], x, n⟩, ⟨[98], r, 0⟩], 4, 0, false⟩, 0) := by
  unfold appendD
  rw [goes_on]
  have : ¬ 65536 < r.length := by omega
  have t : ([97] : Bs) < [98] := by decide
  simp [appendF, okName, findF, putF, this, t]
theorem dn5 (x : Bs) (n : Nat) (r : Bs) : syncD ⟨[⟨[97], x, n⟩, ⟨[98], r, 0⟩], 4, 0, false⟩ [98] = (⟨[⟨[97], x, n⟩, ⟨[98], r, r.length⟩], 5, 0, false⟩, 0) := rfl
theorem dn6a (x : Bs) (n c : Nat) : renameD ⟨[⟨[97], x, n⟩], c, 0, false⟩ [97] [98] = (⟨[⟨[98], x, n⟩], c + 1, 0, false⟩, 0) := by
  unfold renameD
  rw [goes_on]; rfl
theorem dn6b (x : Bs) (n c : Nat) (r : Bs) (k : Nat) : renameD ⟨[⟨[97], x, n⟩, ⟨[98], r, k⟩], c, 0, false⟩ [97] [98] = (⟨[⟨[98], x, n⟩], c + 1, 0, false⟩, 0) := by
  unfold renameD
  rw [goes_on]; rfl
theorem dn7 (x : Bs) (n c : Nat) : listD ⟨[⟨[98], x, n⟩], c, 0, false⟩ = [[98]] := rfl
theorem dn8 (x : Bs) (n c : Nat) : readD ⟨[⟨[98], x, n⟩], c, 0, false⟩ [98] = (x, 0) := rfl
theorem dn9 (x : Bs) (n c : Nat) : readD ⟨[⟨[98], x, n⟩], c, 0, false⟩ [97] = ([], 101) := rfl
theorem keep_pk (c : Int) (u : Nat) : ((keepN c u : Nat) : Int) = pk c ((u : Int) + 1) := by
  unfold keepN pk
  split <;> (rw [Int.natCast_emod]; congr 1; omega)
theorem dn10 (o m : Bs) (c : Nat) (k : Int) : ∃ n, restartD ⟨[⟨[98], o ++ m, o.length⟩], c, 0, false⟩ [k] = ⟨[⟨[98], o ++ m.take (keepN k m.length), n⟩], c, 0, false⟩ := by
  refine ⟨o.length + keepN k m.length, ?_⟩
  show (⟨[cutF ⟨[98], o ++ m, o.length⟩ k], c, 0, false⟩ : Dk) = _
  unfold cutF
  dsimp only
  have e : (o ++ m).length - o.length = m.length := by simp
  rw [e, List.take_length_add_append]
end Go.Proofs.Ytffpmcelelloeaa.Gm
