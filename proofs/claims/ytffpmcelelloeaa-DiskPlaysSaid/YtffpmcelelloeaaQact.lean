/-
  The document's own disk: act, at, Read, Off, Acts, Arm, New.
-/
import Derived.Test.YtffpmcelelloeaaTurn10
import Derived.Test.YtffpmcelelloeaaQdisk
namespace Go.Proofs.Ytffpmcelelloeaa
open Go.RowKit Gm

namespace Gm
def errD (D : Dk) : Int := if goesD D then 0 else 100
theorem errD_no {D : Dk} (h : goesD D = false) : errD D = 100 := by unfold errD; rw [h]; rfl
theorem errD_ok {D : Dk} (h : goesD D = true) : errD D = 0 := by unfold errD; rw [h]; rfl
end Gm
theorem QAt.dn {w : World} {p : Nat} {v : Value} {D : Dk} (h : QAt w p v D) (n : Nat) : QAt (w.drewN n) p v D := ⟨h.blk, h.row⟩

set_option maxHeartbeats 1000000 in
theorem qact_any (p : Nat) (v : Value) (D : Dk) (w : World) (h : QAt w p v D) (ha : D.acts ≤ 1099511627776) :
    Calls Try.prog 38 #[.pointer (some ⟨p, 0, none⟩)] w fun e w' => e = .returned (.int .i64 (errD D)) ∧ QAt w' p v (actD D) ∧ w.grownBy w' (some p) := by
  obtain ⟨_, c1, c2, c3, hf, hl⟩ := h.cells
  have f1 := hf 1
  have f3 := hf 3
  have H := Lib.hid h
  clear h hf
  by_cases ho : D.off = true
  · rw [ho] at c3
    have HO := Lib.hid ho
    clear ho
    go_enter Try.func38, Try.ntmps38
    go_wp2
    go_ret
    have e1 : goesD D = false := by unfold goesD; rw [HO.out]; rfl
    have e2 : actD D = D := by unfold actD; rw [HO.out]; rfl
    rw [errD_no e1, e2]
    exact ⟨rfl, H.out, gbb _ (Below.refl _ _)⟩
  · have ho' : D.off = false := by simpa using ho
    rw [ho'] at c3
    have HO := Lib.hid ho'
    have hw : ((D.acts : Int) + 1) = ((D.acts + 1 : Nat) : Int) := by omega
    have HW := Lib.hid hw
    clear ho ho' hw
    by_cases he : D.acts + 1 = D.arm
    · have ei : ((D.acts : Int) + 1 == (D.arm : Int)) = true := by simp; omega
      have HE := Lib.hid he
      clear he
      go_enter Try.func38, Try.ntmps38
      go_wp2
      have h1 := H.out.set1 (D.acts + 1)
      obtain ⟨_, d1, d2, d3, df, _⟩ := h1.cells
      dsimp only at d1 d2 d3
      rw [← HW.out] at d1 d2 d3 df
      rw [HO.out] at d3
      have df3 := df 3
      clear h1 df
      go_quiet (fail)
      go_wp2
      go_ret
      have e1 : goesD D = false := by unfold goesD; rw [HO.out, decide_eq_true HE.out]; rfl
      have e2 : actD D = { D with acts := D.acts + 1, off := true } := by unfold actD; rw [HO.out, decide_eq_true HE.out]; rfl
      rw [errD_no e1, e2]
      have q1 := ((H.out.set1 (D.acts + 1)).dn nq).set3 true
      rw [← HW.out] at q1
      exact ⟨rfl, q1, gbt (gbd (gbs _ _ _ _) nq) (gbs _ _ _ _)⟩
    · have ei : ((D.acts : Int) + 1 == (D.arm : Int)) = false := by simp; omega
      have HE := Lib.hid he
      clear he
      go_enter Try.func38, Try.ntmps38
      go_wp2
      have h1 := H.out.set1 (D.acts + 1)
      obtain ⟨_, d1, d2, d3, df, _⟩ := h1.cells
      dsimp only at d1 d2 d3
      rw [← HW.out] at d1 d2 d3 df
      rw [HO.out] at d3
      have df3 := df 3
      clear h1 df
      go_quiet (fail)
      go_wp2
      go_ret
      have e1 : goesD D = true := by unfold goesD; rw [HO.out, decide_eq_false HE.out]; rfl
      have e2 : actD D = { D with acts := D.acts + 1 } := by
        unfold actD; rw [HO.out, decide_eq_false HE.out]
        simp
      rw [errD_ok e1, e2]
      have q1 := (H.out.set1 (D.acts + 1)).dn nq
      rw [← HW.out] at q1
      exact ⟨rfl, q1, gbd (gbs _ _ _ _) nq⟩
end Go.Proofs.Ytffpmcelelloeaa
