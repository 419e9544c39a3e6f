/-
  The laws' first calls, whose answers are fixed: chapter 5's example.
-/
import Derived.Test.YthaioeebnpjajaaHold
namespace Go.Proofs.Ythaioeebnpjajaa
open Go.RowKit Gm

def es0 : List E := [(0, 1, 3), (1, 2, 2)]
theorem ex_fits : fits 3 es0 [2, 2] = true := by decide
theorem ex_good : good 3 es0 [2, 2] 0 2 = true := by decide
theorem ex_bad : good 3 es0 [2, 1] 0 2 = false := by decide
theorem ex_right : right 3 es0 = true := by decide
theorem ex_value : value 3 es0 [2, 2] 0 = 2 := by decide
theorem ex_reach : reach 3 (es0.zip [2, 2]) 0 = [true, true, false] := by decide
theorem ex_cut : cut 3 es0 [true, true, false] = 2 := by decide

set_option maxRecDepth 100000 in
set_option maxHeartbeats 2000000 in
theorem awake_any (w : World) : Calls Try.prog 10 #[] w fun e w' => e = .returned (.bool true) ∧ Below w.heap.size w w' := by
  obtain ⟨W0, hW0⟩ : ∃ W0, (((w.alloc (.cells #[.int .i64 0, .int .i64 1, .int .i64 3, .int .i64 1, .int .i64 2, .int .i64 2] 41)).alloc (.cells #[.int .i64 3, .slice (some ⟨w.heap.size, 0, none⟩) 2 2] 24)).alloc (.cells #[.int .i64 2, .int .i64 2] 3)) = W0 := ⟨_, rfl⟩
  have hB0 : Below w.heap.size w W0 := by rw [← hW0]; exact (((Below.refl _ w).alloc (Nat.le_refl _) _).alloc (by simp) _).alloc (by simp; omega) _
  have bE : Blk W0 w.heap.size 41 #[.int .i64 0, .int .i64 1, .int .i64 3, .int .i64 1, .int .i64 2, .int .i64 2] := by rw [← hW0]; exact ((Blk.new w _ _).alloc _).alloc _
  have bN : Blk W0 (w.heap.size + 1) 24 #[.int .i64 3, .slice (some ⟨w.heap.size, 0, none⟩) 2 2] := by
    rw [← hW0]; have := (Blk.new (w.alloc (.cells #[.int .i64 0, .int .i64 1, .int .i64 3, .int .i64 1, .int .i64 2, .int .i64 2] 41)) 24 #[.int .i64 3, .slice (some ⟨w.heap.size, 0, none⟩) 2 2]).alloc (.cells #[.int .i64 2, .int .i64 2] 3)
    rwa [World.size_alloc] at this
  have bF : Blk W0 (w.heap.size + 1 + 1) 3 (ints [2, 2]).toArray := by
    rw [← hW0]; have := Blk.new ((w.alloc (.cells #[.int .i64 0, .int .i64 1, .int .i64 3, .int .i64 1, .int .i64 2, .int .i64 2] 41)).alloc (.cells #[.int .i64 3, .slice (some ⟨w.heap.size, 0, none⟩) 2 2] 24)) 3 #[.int .i64 2, .int .i64 2]
    simp only [World.size_alloc] at this; exact this
  have hnet : ∀ W, Blk W w.heap.size 41 #[.int .i64 0, .int .i64 1, .int .i64 3, .int .i64 1, .int .i64 2, .int .i64 2] → NetAt W.heap.size W (some ⟨w.heap.size, 0, none⟩) 2 es0 := fun W b =>
    edges_blk (es := es0) (fun i hi => by
      have : i = 0 ∨ i = 1 := by simp [es0] at hi; omega
      rcases this with rfl | rfl
      · exact ⟨by rw [b.cell]; rfl, by rw [b.cell]; rfl, by rw [b.cell]; rfl⟩
      · exact ⟨by rw [b.cell]; rfl, by rw [b.cell]; rfl, by rw [b.cell]; rfl⟩) b.lt (by simp [es0])
  have hflow : ∀ W g x y, Blk W g 3 (ints [x, y]).toArray → FlowAt W.heap.size W (some ⟨g, 0, none⟩) 2 [x, y] := fun W g x y b => flow_blk b (by simp)
  have HW0 := Lib.hid hW0
  have HN := Lib.hid hnet
  have HF := Lib.hid hflow
  clear hW0 hnet hflow
  have hreach := reach_yes 3 (some ⟨w.heap.size, 0, none⟩) 2 2 es0 (some ⟨w.heap.size + 1 + 1, 0, none⟩) 2 2 [2, 2] 0 W0 (HN.out W0 bE) (HF.out W0 _ _ _ bF) ex_fits (by decide)
  have HREACH : Hid (Calls Try.prog 12 #[netV 3 (some ⟨w.heap.size, 0, none⟩) 2 2, .slice (some ⟨w.heap.size + 1 + 1, 0, none⟩) 2 2, .int .i64 0] W0 (ReachPost 3 [true, true, false] W0)) := Lib.hid (by rw [← ex_reach]; exact hreach)
  clear hreach
  go_enter Try.func10, Try.ntmps10
  go_wp2_with (first
    | (go_at_call 12; rw [HW0.out]; (with_reducible refine HREACH.out.mono ?_); rintro e w1 ⟨g, rfl, hg, bG, hb1⟩
       have bE1 := bE.below hb1 bE.lt
       have bN1 := bN.below hb1 bN.lt
       have bF1 := bF.below hb1 bF.lt
       obtain ⟨lN1, n0, n1⟩ := bN1.two)
    | (go_at_call 11; (with_reducible refine (right_any _ _ _ _ es0 _ (HN.out _ bE1)).mono ?_); rw [ex_right]; rintro e w2 ⟨rfl, hb2⟩
       have bE2 := bE1.below hb2 bE1.lt
       have bN2 := bN1.below hb2 bN1.lt
       have bF2 := bF1.below hb2 bF1.lt
       have bG2 := bG.below hb2 bG.lt
       obtain ⟨lN2, m0, m1⟩ := bN2.two)
    | (go_at_call 15; (with_reducible refine (good_any _ _ _ _ es0 _ _ _ [2, 2] _ _ _ (HN.out _ bE2) (HF.out _ _ _ _ bF2)).mono ?_); rw [ex_good]; rintro e w3 ⟨rfl, hb3⟩
       have bE3 := bE2.below hb3 bE2.lt
       have bN3 := bN2.below hb3 bN2.lt
       have bF3 := bF2.below hb3 bF2.lt
       have bG3 := bG2.below hb3 bG2.lt
       obtain ⟨lN3, o0, o1⟩ := bN3.two
       have bH : Blk (w3.alloc (.cells #[.int .i64 2, .int .i64 1] 3)) w3.heap.size 3 (ints [2, 1]).toArray := Blk.new w3 _ _
       have hNH := HN.out _ (bE3.alloc (.cells #[.int .i64 2, .int .i64 1] 3))
       have hFH := HF.out _ _ _ _ bH)
    | (go_at_call 15; (with_reducible refine (good_any _ _ _ _ es0 _ _ _ [2, 1] _ _ _ hNH hFH).mono ?_); rw [ex_bad]; rintro e w4 ⟨rfl, hb4⟩
       have bE4 := (bE3.alloc _).below hb4 (bE3.alloc _).lt
       have bN4 := (bN3.alloc _).below hb4 (bN3.alloc _).lt
       have bF4 := (bF3.alloc _).below hb4 (bF3.alloc _).lt
       have bG4 := (bG3.alloc _).below hb4 (bG3.alloc _).lt
       obtain ⟨lN4, p0, p1⟩ := bN4.two)
    | (go_at_call 17; (with_reducible refine (value_any _ _ _ _ es0 _ _ _ [2, 2] _ _ (HN.out _ bE4) (HF.out _ _ _ _ bF4)).mono ?_); rw [ex_value]; rintro e w5 ⟨rfl, hb5⟩
       have bE5 := bE4.below hb5 bE4.lt
       have bN5 := bN4.below hb5 bN4.lt
       have bG5 := bG4.below hb5 bG4.lt
       obtain ⟨lN5, q0, q1⟩ := bN5.two
       have bI : Blk (w5.alloc (.cells #[.bool true, .bool true, .bool false] 4)) w5.heap.size 4 (boolsA [true, true, false]) := Blk.new w5 _ _
       have hSI := side_blk (n := 3) bI rfl (by omega)
       have hSG := side_blk (n := 3) (bG5.alloc (.cells #[.bool true, .bool true, .bool false] 4)) rfl (by omega))
    | (go_at_call 19; (with_reducible refine (bools_any _ _ _ _ _ _ [true, true, false] [true, true, false] _ hSG hSI).mono ?_); rintro e w6 ⟨rfl, hw6⟩
       have bE6 := hw6.blk (bE5.alloc _)
       have bN6 := hw6.blk (bN5.alloc _)
       have bG6 := hw6.blk (bG5.alloc _)
       have hb6 := ((Below.refl _ w5).alloc (Nat.le_refl _) _).trans (hw6.low w5.heap.size)
       obtain ⟨lN6, r0, r1⟩ := bN6.two
       have hN6 := HN.out _ bE6
       have hS6 := side_blk (n := 3) bG6 rfl (by omega)
       clear hw6)
    | (go_at_call 20; (with_reducible refine (cut_any _ _ _ _ es0 _ _ _ [true, true, false] _ hN6 hS6).mono ?_); rw [ex_cut]; rintro e w7 ⟨rfl, hb7⟩))
  go_ret
  have z0 := hB0.size
  have h1 := hB0.trans (hb1.mono z0)
  have h2 := h1.trans (hb2.mono h1.size)
  have h3 := h2.trans (hb3.mono h2.size)
  have h4 := (h3.alloc h3.size _).trans (hb4.mono (by simp; have := h3.size; omega))
  have h5 := h4.trans (hb5.mono h4.size)
  have h6 := h5.trans (hb6.mono h5.size)
  exact ⟨ret_bool (by first | rfl | simp | decide), h6.trans (hb7.mono h6.size)⟩
end Go.Proofs.Ythaioeebnpjajaa
