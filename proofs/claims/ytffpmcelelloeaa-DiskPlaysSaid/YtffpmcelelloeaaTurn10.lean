/-
  What an action leaves of a disk, and of the world.
-/
import Derived.Test.YtffpmcelelloeaaHelp
namespace Go.Proofs.Ytffpmcelelloeaa
open Go.RowKit Gm

namespace Gm
theorem goes_act {D : Dk} (h : goesD D = true) : actD D = ⟨D.fs, D.acts + 1, D.arm, false⟩ := by
  unfold goesD at h
  rw [Bool.and_eq_true] at h
  obtain ⟨h1, h2⟩ := h
  have h1' : D.off = false := by simpa using h1
  have h2' : decide (D.acts + 1 = D.arm) = false := by simpa using h2
  unfold actD
  rw [h1', h2']; simp
theorem done_ok {D : Dk} (h : goesD D = true) (r : List Fl × Int) : doneD D r = (⟨r.1, D.acts + 1, D.arm, false⟩, r.2) := by
  unfold doneD
  rw [if_pos h, goes_act h]
theorem done_no {D : Dk} (h : goesD D = false) (r : List Fl × Int) : doneD D r = (actD D, 100) := by
  unfold doneD
  rw [h]; rfl
end Gm
theorem gbt {A B C : World} {row : Option Nat} (h : A.grownBy B row) (k : B.grownBy C row) : A.grownBy C row :=
  ⟨k.os.trans h.os, k.tape.trans h.tape, k.output.trans h.output, Nat.le_trans h.size k.size, fun j hj hr => (k.block j (Nat.lt_of_lt_of_le hj h.size) hr).trans (h.block j hj hr)⟩
theorem gbs (W : World) (b j : Nat) (v : Value) : W.grownBy (W.setCell ⟨b, j, none⟩ v) (some b) :=
  ⟨rfl, rfl, rfl, by simp [World.setCell], fun k _ hk => Below.heap_setCell _ _ _ k (fun e => hk (by rw [e]))⟩
theorem gbb {A B : World} (row : Option Nat) (h : Below A.heap.size A B) : A.grownBy B row := ⟨h.os, h.tape, h.output, h.size, fun j hj _ => h.block j hj⟩
theorem gbd {A B : World} {row : Option Nat} (h : A.grownBy B row) (n : Nat) : A.grownBy (B.drewN n) row := ⟨h.os, h.tape, h.output, h.size, h.block⟩
theorem gb_new {w w1 w2 : World} {p : Nat} (h : w.grownBy w1 (some p)) (hb : Below w1.heap.size w1 w2) : w.grownBy w2 (some p) := gbt h (gbb _ hb)
end Go.Proofs.Ytffpmcelelloeaa
