/-
  The document's own disk: Arm.
-/
import Derived.Test.YtffpmcelelloeaaQmeth
namespace Go.Proofs.Ytffpmcelelloeaa
open Go.RowKit Gm

set_option maxHeartbeats 1000000 in
theorem qarm_any (p : Nat) (D : Dk) (R : Nat → Prop) (n : Int) (w : World) (h : QDisk w p D R) (ha : D.acts ≤ 1099511627776) (_hn : I64 n) :
    Calls Try.prog 23 #[.pointer (some ⟨p, 0, none⟩), .int .i64 n] w fun e w' => e = .returned (.int .i64 (armD D n).2) ∧ Turn QDisk w w' p (armD D n).1 R := by
  obtain ⟨ok, v, hR, hq⟩ := h
  have HR := Lib.hid hR
  have HQ := Lib.hid hq
  have hok' := ok.armed n
  obtain ⟨_, c1, c2, _, hf, hl⟩ := hq.cells
  have f2 := hf 2
  have hcase : n < 0 ∨ (¬ n < 0 ∧ 1099511627776 < n) ∨ n = 0 ∨ (0 < n ∧ n ≤ 1099511627776) := by omega
  clear hR hq hf
  rcases hcase with h1 | ⟨h1, h2⟩ | h1 | ⟨h1, h2⟩
  · have e1 : armD D n = (D, 1) := by unfold armD; rw [if_pos (.inl h1)]
    rw [e1] at hok' ⊢
    clear e1
    go_enter Try.func23, Try.ntmps23
    go_wp2
    go_ret
    exact ⟨rfl, q_grown HR.out ok HQ.out (gbb _ (Below.refl _ _)) (fun b e => .inl e)⟩
  · have e1 : armD D n = (D, 1) := by unfold armD; rw [if_pos (.inr h2)]
    rw [e1] at hok' ⊢
    clear e1
    go_enter Try.func23, Try.ntmps23
    go_wp2
    go_ret
    exact ⟨rfl, q_grown HR.out ok HQ.out (gbb _ (Below.refl _ _)) (fun b e => .inl e)⟩
  · have e1 : armD D n = ({ D with arm := 0 }, 0) := by unfold armD; rw [if_neg (by omega), if_pos h1]
    rw [e1] at hok' ⊢
    subst h1
    clear e1
    have HO := Lib.hid hok'
    clear hok' ok
    go_enter Try.func23, Try.ntmps23
    go_wp2
    go_ret
    exact ⟨rfl, q_grown HR.out HO.out (HQ.out.set2 0) (gbs _ _ _ _) (fun b e => .inl e)⟩
  · have e1 : armD D n = ({ D with arm := D.acts + n.toNat }, 0) := by unfold armD; rw [if_neg (by omega), if_neg (by omega)]
    rw [e1] at hok' ⊢
    have hs := HQ.out.set2 0
    obtain ⟨_, d1, d2, _, df, dl⟩ := hs.cells
    dsimp only at d1 d2
    have df2 := df 2
    have HS := Lib.hid (hs.set2 (D.acts + n.toNat))
    have hN : ((D.acts + n.toNat : Nat) : Int) = (D.acts : Int) + n := by omega
    rw [hN] at HS
    have h3 : ¬ n < 0 := by omega
    have h4 : ¬ 1099511627776 < n := by omega
    have HO := Lib.hid hok'
    clear e1 hok' ok df hs hN
    go_enter Try.func23, Try.ntmps23
    go_wp2
    go_ret
    exact ⟨rfl, q_grown HR.out HO.out HS.out (gbt (gbs _ _ _ _) (gbs _ _ _ _)) (fun b e => .inl e)⟩
end Go.Proofs.Ytffpmcelelloeaa
