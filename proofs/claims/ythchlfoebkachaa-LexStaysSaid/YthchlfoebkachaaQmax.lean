/-
  The document's own Max; Ints and pick of the laws, walked.
-/
import Derived.Test.YthchlfoebkachaaQpush
import Derived.Test.YthchlfoebkachaaLaw
namespace Go.Proofs.Ythchlfoebkachaa
open Go.RowKit Gm

/-- What Max answers. -/
def maxF (v : Int) (es : List E) (s t : Int) : List Int × Int × Int := pushF v es (List.replicate (min es.length 300) 0) s t 1073741824
theorem min300 (len : Nat) : (if (300 : Int) < (len : Int) then (300 : Int) else (len : Int)) = ((min len 300 : Nat) : Int) := by split <;> omega

set_option maxRecDepth 100000 in
set_option maxHeartbeats 2000000 in
theorem qmax_any (v : Int) (a : Option Addr) (len cap : Nat) (es : List E) (s t : Int) (w : World) (hE : NetAt w.heap.size w a len es) :
    Calls Try.prog 17 #[netV v a len cap, .int .i64 s, .int .i64 t] w (PushPost (maxF v es s t) w) := by
  obtain ⟨W0, hW0⟩ : ∃ W0, w.alloc (.cells #[.int .i64 v, .slice a len cap] 24) = W0 := ⟨_, rfl⟩
  have hB0 : Below w.heap.size w W0 := by rw [← hW0]; exact (Below.refl _ w).alloc (Nat.le_refl _) _
  have bN : Blk W0 w.heap.size 24 #[.int .i64 v, .slice a len cap] := by rw [← hW0]; exact Blk.new w _ _
  have HW0 := Lib.hid hW0
  have HlE := Lib.hid hE.1
  have HE := Lib.hid hE
  obtain ⟨m, hm⟩ : ∃ m, min len 300 = m := ⟨_, rfl⟩
  have hm3 : m ≤ 300 := by omega
  have hmi := min300 len
  rw [hm] at hmi
  have HM := Lib.hid hm
  have hmk := make_ints m (by omega)
  have HMF : Hid (maxF v es s t = pushF v es (List.replicate m 0) s t 1073741824) := Lib.hid (by unfold maxF; rw [HlE.out, hm])
  clear hW0 hE hm
  go_enter Try.func17, Try.ntmps17
  go_wp2
  rw [HW0.out]
  have hcells : ∀ W, Below W0.heap.size W0 W → W.cell? ⟨w.heap.size, 0, none⟩ = some (.int .i64 v) ∧ W.cell? ⟨w.heap.size, 1, none⟩ = some (.slice a len cap) := fun W h => (bN.below h bN.lt).two.2
  have HCE := Lib.hid hcells
  have hB := below_drew (Below.refl W0.heap.size W0)
  have hz0 := hB0.size
  clear hcells
  refine region_mix (fun W => Below W0.heap.size W0 W) (12) (.reads [0, 1, 2, 3, 4, 6, 7] (.only 5 (.only 8 (.reads [9, 10, 11] (.only 12 (.only 13 (.only 14 (.stop)))))))) (by kernel_rfl) (by kernel_rfl) (hB) ?_
  obtain ⟨wc, hwc⟩ : ∃ W, W0.drew = W := ⟨_, rfl⟩
  rw [hwc] at hB ⊢
  clear hwc
  repeat (
    refine plan_read rfl (fun K hK => ?_)
    first
      | (refine plan_neg ?_ ?_
         focus (go_simp; done)
         go_simp
         refine hK _ ?_
         clear hK K)
      | (apply plan_pos
         focus (go_simp; done)
         focus (
           intro W hW
           (first | obtain ⟨d0, d1⟩ := HCE.out W hW | skip)
           go_simp
           first
             | done
             | exact rfl)
         go_simp
         refine hK _ ?_
         clear hK K))
  refine plan_only rfl (fun Q hQ => ?_)
  go_wp2
  have bZ := Blk.new wc 3 (Array.replicate m (.int .i64 0))
  replace hB := hB.alloc hB.size (.cells (Array.replicate m (.int .i64 0)) 3)
  refine hQ _ _ (fun _ => hB) ?_
  clear hQ Q
  generalize wc.alloc (.cells (Array.replicate m (.int .i64 0)) 3) = wd at *
  generalize wc.heap.size = Z at *
  have hZ : FlowAt wd.heap.size wd (some ⟨Z, 0, none⟩) m (List.replicate m 0) := by
    have e : Array.replicate m (Value.int .i64 0) = (ints (List.replicate m 0)).toArray := by apply Array.toList_inj.1; simp
    rw [e] at bZ
    have h := flow_blk bZ (by simp; omega)
    simpa using h
  have HZ := Lib.hid hZ
  clear hZ bZ
  obtain ⟨wc, rfl⟩ : ∃ W, W = wd := ⟨_, rfl⟩
  refine plan_only rfl (fun Q hQ => ?_)
  have HN0 := Lib.hid ((HE.out.below (hB0.trans (hB.mono hz0))).more (show w.heap.size ≤ wc.heap.size by have := hB.size; omega))
  go_wp2_with (go_at_call 27; (with_reducible refine (qpush_any _ _ _ _ es _ _ _ (List.replicate m 0) s t 1073741824 _ HN0.out HZ.out (by simp [I64])).mono ?_); rintro e0 wd ⟨pa, pl, pc, rfl, hP, hb⟩)
  obtain ⟨R, hR⟩ : ∃ R, pushF v es (List.replicate m 0) s t 1073741824 = R := ⟨_, rfl⟩
  rw [hR] at hP ⊢
  have HR := Lib.hid hR
  replace hB := hB.trans (hb.mono hB.size)
  refine hQ _ _ (fun _ => hB) ?_
  clear hQ Q hb HN0 HZ hR
  obtain ⟨wc, rfl⟩ : ∃ W, W = wd := ⟨_, rfl⟩
  repeat (
    refine plan_read rfl (fun K hK => ?_)
    first
      | (refine plan_neg ?_ ?_
         focus (go_simp; done)
         go_simp
         refine hK _ ?_
         clear hK K)
      | (apply plan_pos
         focus (go_simp; done)
         focus (
           intro W hW
           (first | obtain ⟨d0, d1⟩ := HCE.out W hW | skip)
           go_simp
           first
             | done
             | exact rfl)
         go_simp
         refine hK _ ?_
         clear hK K))
  refine plan_only rfl (fun Q hQ => ?_)
  go_wp2
  refine hQ _ _ (fun h => absurd h (by omega)) ?_
  clear hQ Q
  refine plan_only rfl (fun Q hQ => ?_)
  go_wp2
  refine hQ _ _ (fun h => absurd h (by omega)) ?_
  clear hQ Q
  refine plan_only rfl (fun Q hQ => ?_)
  go_wp2
  refine hQ _ _ (fun h => absurd h (by omega)) ?_
  clear hQ Q
  unfold Plan.wp
  go_wp2
  refine bodyPost_ret (v := .tuple #[.slice pa pl pc, .int .i64 R.2.1, .int .i64 R.2.2]) (by simp [results, Try.results17, go_sem]) rfl ?_
  rw [HMF.out, HR.out]
  exact ⟨pa, pl, pc, rfl, hP, hB0.trans (hB.mono hz0)⟩
end Go.Proofs.Ythchlfoebkachaa
