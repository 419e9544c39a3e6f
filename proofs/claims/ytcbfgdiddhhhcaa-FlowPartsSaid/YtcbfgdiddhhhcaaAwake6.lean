/-
  The laws' own awake of layer 6. (XMade: the program's Push and Max.)
-/
import Derived.Test.YtcbfgdiddhhhcaaMade
import Derived.Test.YtcbfgdiddhhhcaaEx
namespace Go.Proofs.Ytcbfgdiddhhhcaa
open Go.RowKit Gm

set_option maxRecDepth 100000 in
set_option maxHeartbeats 4000000 in
theorem awake6_any (w : World) : Calls Try.prog 11 #[] w fun e w' => e = .returned (.bool true) ∧ Below w.heap.size w w' := by
  have HX1 := Lib.hid ex_max
  have HX2 := Lib.hid ex_more
  have HX3 := Lib.hid ex_one
  have HX4 := Lib.hid ex_no
  have hE0 : ∀ W : World, Blk W w.heap.size 44 #[.int .i64 0, .int .i64 1, .int .i64 3, .int .i64 1, .int .i64 2, .int .i64 2] → NetAt W.heap.size W (some ⟨w.heap.size, 0, none⟩) 2 [(0, 1, 3), (1, 2, 2)] := fun W b =>
    edges_blk (es := [(0, 1, 3), (1, 2, 2)]) (fun i hi => by
      have : i = 0 ∨ i = 1 := by simp at hi; omega
      rcases this with rfl | rfl
      · exact ⟨by rw [b.cell]; rfl, by rw [b.cell]; rfl, by rw [b.cell]; rfl⟩
      · exact ⟨by rw [b.cell]; rfl, by rw [b.cell]; rfl, by rw [b.cell]; rfl⟩) b.lt (by simp)
  have HE0 := Lib.hid hE0
  clear hE0
  go_enter Try.func11, Try.ntmps11
  go_upto_region 2 with fail
  obtain ⟨w1, hw1⟩ : ∃ W, (w.alloc (.cells #[.int .i64 0, .int .i64 1, .int .i64 3, .int .i64 1, .int .i64 2, .int .i64 2] 44)).alloc (.cells #[.int .i64 3, .slice (some ⟨w.heap.size, 0, none⟩) 2 2] 24) = W := ⟨_, rfl⟩
  have bE1 : Blk w1 w.heap.size 44 #[.int .i64 0, .int .i64 1, .int .i64 3, .int .i64 1, .int .i64 2, .int .i64 2] := hw1 ▸ (Blk.new w _ _).alloc _
  have bN1 : Blk w1 (w.heap.size + 1) 24 #[.int .i64 3, .slice (some ⟨w.heap.size, 0, none⟩) 2 2] := by
    rw [← hw1]; have := Blk.new (w.alloc (.cells #[.int .i64 0, .int .i64 1, .int .i64 3, .int .i64 1, .int .i64 2, .int .i64 2] 44)) 24 #[.int .i64 3, .slice (some ⟨w.heap.size, 0, none⟩) 2 2]
    rwa [World.size_alloc] at this
  have hB1 : Below w.heap.size w w1 := hw1 ▸ ((Below.refl _ w).alloc (Nat.le_refl _) _).alloc (by simp) _
  rw [hw1]
  clear hw1
  obtain ⟨lN1, n10, n11⟩ := bN1.two
  have hflow : ∀ (W : World) (x y : Int), FlowAt (W.alloc (.cells #[.int .i64 x, .int .i64 y] 3)).heap.size (W.alloc (.cells #[.int .i64 x, .int .i64 y] 3)) (some ⟨W.heap.size, 0, none⟩) 2 [x, y] := fun W x y =>
    flow_blk (l := [x, y]) (Blk.new W _ _) (by simp)
  have HFL := Lib.hid hflow
  have HN1 := Lib.hid (HE0.out w1 bE1)
  have HB1 := Lib.hid hB1
  have hz1 := hB1.size
  clear hflow hB1 bE1
  go_wp2_with (first
    | (go_at_call 14; (with_reducible refine (max_any _ _ _ _ [(0, 1, 3), (1, 2, 2)] 0 2 _ HN1.out).mono ?_); rw [HX1.out]; rintro e w2 ⟨f2, l2, c2, he, hF2, hb2⟩
       obtain rfl : 2 = l2 := hF2.1
       dsimp only at he hF2
       subst he
       have bN2 := bN1.below hb2 lN1
       obtain ⟨lN2, n20, n21⟩ := bN2.two
       have HF2 := Lib.hid hF2
       have HN2 := Lib.hid (net_on HN1.out hb2)
       have HB2 := Lib.hid (HB1.out.trans (hb2.mono hz1))
       have hz2 := HB2.out.size
       clear hF2 hb2)
    | (go_at_call 12; (with_reducible refine (push_any _ _ _ _ [(0, 1, 3), (1, 2, 2)] _ _ _ [2, 2] 0 2 5 _ HN2.out HF2.out (by simp [I64])).mono ?_); rw [HX2.out]; rintro e w3 ⟨f3, l3, c3, he, hF3, hb3⟩
       obtain rfl : 2 = l3 := hF3.1
       dsimp only at he hF3
       subst he
       have bN3 := bN2.below hb3 lN2
       obtain ⟨lN3, n30, n31⟩ := bN3.two
       have HF3 := Lib.hid hF3
       have HF23 := Lib.hid (flow_on HF2.out hb3)
       have HN3 := Lib.hid (net_on HN2.out hb3)
       have HB3 := Lib.hid (HB2.out.trans (hb3.mono hz2))
       have hz3 := HB3.out.size
       clear hF3 hb3)
    | (go_at_call 12; (with_reducible refine (push_any _ _ _ _ [(0, 1, 3), (1, 2, 2)] _ _ _ [0, 0] 0 2 1 _ (net_on HN3.out ((Below.refl _ w3).alloc (Nat.le_refl _) _)) (HFL.out w3 0 0) (by simp [I64])).mono ?_); rw [HX3.out]; rintro e w4 ⟨f4, l4, c4, he, hF4, hb4⟩
       obtain rfl : 2 = l4 := hF4.1
       dsimp only at he hF4
       subst he
       have hb34 := ((Below.refl w3.heap.size w3).alloc (Nat.le_refl _) (.cells #[.int .i64 0, .int .i64 0] 3)).trans (hb4.mono (by simp))
       have bN4 := bN3.below hb34 lN3
       obtain ⟨lN4, n40, n41⟩ := bN4.two
       have HF4 := Lib.hid hF4
       have HF24 := Lib.hid (flow_on HF23.out hb34)
       have HF34 := Lib.hid (flow_on HF3.out hb34)
       have HN4 := Lib.hid (net_on HN3.out hb34)
       have HB4 := Lib.hid (HB3.out.trans (hb34.mono hz3))
       have hz4 := HB4.out.size
       clear hF4 hb4 hb34)
    | (go_at_call 12; (with_reducible refine (push_any _ _ _ _ [(0, 1, 3), (1, 2, 2)] _ _ _ [2, 2] 0 2 (-1) _ HN4.out HF24.out (by simp [I64])).mono ?_); rw [HX4.out]; rintro e w5 ⟨f5, l5, c5, he, hF5, hb5⟩
       dsimp only at he hF5
       subst he
       have HF25 := Lib.hid (flow_on HF24.out hb5)
       have HF35 := Lib.hid (flow_on HF34.out hb5)
       have HF45 := Lib.hid (flow_on HF4.out hb5)
       have HB5 := Lib.hid (HB4.out.trans (hb5.mono hz4))
       have hz5 := HB5.out.size
       clear hF5 hb5)
    | (go_at_call 16; (with_reducible refine (intsame_yes _ _ _ _ _ _ [2, 2] _ (flow_on HF25.out ((Below.refl _ w5).alloc (Nat.le_refl _) _)) (HFL.out w5 2 2)).mono ?_); rintro e w6 ⟨rfl, hd6⟩
       have hb6 := ((Below.refl w5.heap.size w5).alloc (Nat.le_refl _) (.cells #[.int .i64 2, .int .i64 2] 3)).trans (hd6.low _)
       have HF26 := Lib.hid (flow_on HF25.out hb6)
       have HF36 := Lib.hid (flow_on HF35.out hb6)
       have HF46 := Lib.hid (flow_on HF45.out hb6)
       have HB6 := Lib.hid (HB5.out.trans (hb6.mono hz5))
       have hz6 := HB6.out.size
       clear hd6 hb6)
    | (go_at_call 16; (with_reducible refine (intsame_yes _ _ _ _ _ _ [2, 2] _ HF36.out HF26.out).mono ?_); rintro e w7 ⟨rfl, hd7⟩
       have HF47 := Lib.hid (flow_on HF46.out (hd7.low _))
       have HB7 := Lib.hid (HB6.out.trans (hd7.low _))
       have hz7 := HB7.out.size
       clear hd7)
    | (go_at_call 16; (with_reducible refine (intsame_yes _ _ _ _ _ _ [1, 1] _ (flow_on HF47.out ((Below.refl _ w7).alloc (Nat.le_refl _) _)) (HFL.out w7 1 1)).mono ?_); rintro e w8 ⟨rfl, hd8⟩))
  go_ret
  exact ⟨rfl, (HB7.out.alloc hz7 _).trans (hd8.low _)⟩
end Go.Proofs.Ytcbfgdiddhhhcaa
