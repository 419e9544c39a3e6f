/-
  The statement GraphMore is proved for every network, every list of numbers and every edge: with that edge more nobody is lost who is reached, and the Cuts of nobody and of everybody are 0. No condition.
-/
import Derived.Test.YthaioeebnpjajaaPlus
import Derived.Test.YthaioeebnpjajaaCapped
import Derived.Deep.DeepCutAuto
namespace Go.Proofs.Ythaioeebnpjajaa.lawMore
open Go.ChangeShapes Go.WideShapes Go.ChangeAt Go.RowKit Gm

/-- What stands behind m := Fit(..). -/
def MorePost (n : Nat) (F : List E) (w3 : World) (s : Value) (wx : World) : Prop :=
  ∃ M a5 cap5, s = .pointer (some ⟨M, 0, none⟩) ∧ w3.heap.size ≤ M ∧ Blk wx M 24 #[.int .i64 (n : Int), .slice a5 F.length cap5] ∧ NetAt wx.heap.size wx a5 F.length F ∧ Below w3.heap.size w3 wx

set_option maxRecDepth 100000 in
set_option maxHeartbeats 4000000 in
theorem walk (v : Int) (a : Option Addr) (len cap : Nat) (es : List E) (ra : Option Addr) (rlen rcap : Nat) (raw : List Int) (mo : E) (w : World) (h0 : (I64 v ∧ NetAt w.heap.size w a len es ∧ Wide es) ∧ len ≤ cap) (h1 : FlowAt w.heap.size w ra rlen raw ∧ ∀ x ∈ raw, I64 x) (h2 : I64 mo.1 ∧ I64 mo.2.1 ∧ I64 mo.2.2) :
    Calls Try.prog 9 #[netV v a len cap, .slice ra rlen rcap, edgeV mo] w fun e w' => e = .returned (.bool true) ∧ Below w.heap.size w w' := by
  obtain ⟨⟨hv, hE, hW⟩, hcap⟩ := h0
  obtain ⟨hR, hraw⟩ := h1
  obtain ⟨W0, hW0⟩ : ∃ W0, (w.alloc (.cells #[.int .i64 v, .slice a len cap] 24)).alloc (.cells #[.int .i64 mo.1, .int .i64 mo.2.1, .int .i64 mo.2.2] 41) = W0 := ⟨_, rfl⟩
  have hB0 : Below w.heap.size w W0 := by rw [← hW0]; exact ((Below.refl _ w).alloc (Nat.le_refl _) _).alloc (by simp) _
  have bN : Blk W0 w.heap.size 24 #[.int .i64 v, .slice a len cap] := by rw [← hW0]; exact (Blk.new w _ _).alloc _
  have bX : Blk W0 (w.heap.size + 1) 41 #[.int .i64 mo.1, .int .i64 mo.2.1, .int .i64 mo.2.2] := by
    rw [← hW0]; have := Blk.new (w.alloc (.cells #[.int .i64 v, .slice a len cap] 24)) 41 #[.int .i64 mo.1, .int .i64 mo.2.1, .int .i64 mo.2.2]
    rwa [World.size_alloc] at this
  have HW0 := Lib.hid hW0
  have HV := Lib.hid hv
  have HE := Lib.hid hE
  have HWI := Lib.hid hW
  have HR := Lib.hid hR
  have HRAW := Lib.hid hraw
  have hN := fitN_bd v
  obtain ⟨n, hn⟩ : ∃ n : Nat, fitN v = n := ⟨(fitN v).toNat, by omega⟩
  rw [hn] at hN
  have HRT := Lib.hid (fit_right v es)
  rw [hn] at HRT
  have HNN := Lib.hid hn
  have hz0 := hB0.size
  obtain ⟨c, hc⟩ : ∃ c, min len 39 = c := ⟨_, rfl⟩
  have hcl : c ≤ len := by omega
  have hc39 : c ≤ 39 := by omega
  have HC := Lib.hid hc
  have HWM : Hid (Wide (es.take c ++ [mo])) := Lib.hid (fun e he => by
    rcases List.mem_append.1 he with h | h
    · exact hW e (List.mem_of_mem_take h)
    · obtain rfl : e = mo := by simpa using h
      exact h2)
  have HlE := Lib.hid hE.1
  obtain ⟨i0, hi0, hx0, hx1, hx2⟩ := info_parts infoEdge
  clear hW0 hv hE hW hR hraw hn hc h2
  go_enter Try.func9, Try.ntmps9
  go_upto_region 4 with (first
    | (go_at_call 10; rw [HW0.out]; (with_reducible refine (awake_any _).mono ?_); rintro e w1 ⟨rfl, hb1⟩
       have bN1 := bN.below hb1 bN.lt
       have bX1 := bX.below hb1 bX.lt
       have hB1 : Below w.heap.size w w1 := hB0.trans (hb1.mono hz0)
       obtain ⟨lN1, n0, n1⟩ := bN1.two)
    | (go_at_call 22; (with_reducible refine (fit_any _ _ _ _ es _ ((HE.out.below hB1).more hB1.size) HV.out HWI.out).mono ?_); rintro e w2 ⟨a2, cap2, rfl, hE2, hb2⟩
       rw [HNN.out] at hE2 ⊢
       have hB2 : Below w.heap.size w w2 := hB1.trans (hb2.mono hB1.size)
       have bN2 := bN1.below hb2 bN1.lt
       have bX2 := bX1.below hb2 bX1.lt
       have lN2 : w2.heap.size < w2.heap.size + 1 := by omega)
    | (go_at_call 23; (with_reducible refine (flow_any n _ _ _ (fitEs n es) _ _ _ raw _ (by simpa using (hE2.below ((Below.refl _ w2).alloc (Nat.le_refl _) _)).more (Nat.le_succ _)) (by simpa using (HR.out.below (hB2.alloc hB2.size _)).more (by have := hB2.size; omega)) HRAW.out HRT.out).mono ?_); rintro e w3 ⟨g, fl, rfl, hG, hF3, hb3⟩
       have bM := (Blk.new w2 24 #[.int .i64 (n : Int), .slice a2 (fitEs n es).length cap2]).below hb3 (by simp)
       have bN3 := (bN2.alloc (.cells #[.int .i64 (n : Int), .slice a2 (fitEs n es).length cap2] 24)).below hb3 (by have := bN2.lt; simp; omega)
       have bX3 := (bX2.alloc (.cells #[.int .i64 (n : Int), .slice a2 (fitEs n es).length cap2] 24)).below hb3 (by have := bX2.lt; simp; omega)
       have hEa := (hE2.below ((Below.refl _ w2).alloc (Nat.le_refl _) (.cells #[.int .i64 (n : Int), .slice a2 (fitEs n es).length cap2] 24))).more (Nat.le_succ _)
       have hE3 : NetAt w3.heap.size w3 a2 (fitEs n es).length (fitEs n es) := by
         have h : NetAt (w2.heap.size + 1) w3 a2 (fitEs n es).length (fitEs n es) := hEa.below (by simpa using hb3)
         exact h.more (by have := hb3.size; simpa using this)
       have hB3 : Below w.heap.size w w3 := (hB2.alloc hB2.size _).trans (hb3.mono (by have := hB2.size; simp; omega))
       have hB3s := hB3.size
       have hb3s := hb3.size
       have HG := Lib.hid hG
       have HE3 := Lib.hid hE3
       have HF3 := Lib.hid hF3
       have HB3 := Lib.hid hB3
       clear hE2 hEa hE3 hF3 hG n0 n1 lN1))
  clear hb1 hb2 hb3 bN bN1 bN2 bX bX1 bX2 hB0 hB1 hB2 lN2 hz0
  go_cut [10] (fun s10 wx => MorePost n (fitEs n (es.take c ++ [mo])) w3 s10 wx)
  case first =>
    obtain ⟨lN, n0, n1⟩ := bN3.two
    obtain ⟨lX, x0, x1, x2⟩ := bX3.three
    have hmi : (if (39 : Int) < (len : Int) then (39 : Int) else (len : Int)) = (c : Int) := by have := HC.out; split <;> omega
    have hsl := slice_edges a len cap c (by omega)
    have hE4 : NetAt w3.heap.size w3 a len es := (HE.out.below hB3).more hB3s
    have HE4 := Lib.hid hE4
    have hB := below_drew (Below.refl w3.heap.size w3)
    have hcells : ∀ W, Below w3.heap.size w3 W → W.cell? ⟨w.heap.size, 0, none⟩ = some (.int .i64 v) ∧ W.cell? ⟨w.heap.size, 1, none⟩ = some (.slice a len cap) ∧ W.cell? ⟨w.heap.size + 1, 0, none⟩ = some (.int .i64 mo.1) ∧ W.cell? ⟨w.heap.size + 1, 1, none⟩ = some (.int .i64 mo.2.1) ∧ W.cell? ⟨w.heap.size + 1, 2, none⟩ = some (.int .i64 mo.2.2) := fun W h =>
      ⟨(bN3.below h bN3.lt).two.2.1, (bN3.below h bN3.lt).two.2.2, (bX3.below h bX3.lt).three.2.1, (bX3.below h bX3.lt).three.2.2.1, (bX3.below h bX3.lt).three.2.2.2⟩
    have HCE := Lib.hid hcells
    clear hE4 hcells hB3
    refine region_mix (fun W => Below w3.heap.size w3 W) (16) (.reads [0, 1, 2, 3, 4, 5, 6, 7, 8, 10] (.fork3 9 (.fork 11 (.fork 12 (.reads [13] (.fork 14 (.only 15 (.only 16 (.stop))) 15 (.only 14 (.only 16 (.stop))))) 15 (.only 12 (.reads [13] (.only 14 (.only 16 (.stop)))))) 15 (.only 11 (.only 12 (.reads [13] (.only 14 (.only 16 (.stop))))))) 11 (.fork 9 (.fork 12 (.reads [13] (.fork 14 (.only 15 (.only 16 (.stop))) 15 (.only 14 (.only 16 (.stop))))) 15 (.only 12 (.reads [13] (.only 14 (.only 16 (.stop)))))) 15 (.only 9 (.only 12 (.reads [13] (.only 14 (.only 16 (.stop))))))) 15 (.fork 9 (.only 11 (.only 12 (.reads [13] (.only 14 (.only 16 (.stop)))))) 11 (.only 9 (.only 12 (.reads [13] (.only 14 (.only 16 (.stop))))))))) (by kernel_rfl) (by kernel_rfl) (hB) ?_
    obtain ⟨wc, hwc⟩ : ∃ W, w3.drew = W := ⟨_, rfl⟩
    rw [hwc] at hB ⊢
    clear hwc n0 n1 x0 x1 x2
    have hlen : (es.take c ++ [mo]).length = c + 1 := by rw [List.length_append, List.length_take, HlE.out]; simp; omega
    have HLEN := Lib.hid hlen
    clear hlen
    repeat (
      refine plan_read rfl (fun K hK => ?_)
      first
        | (refine plan_neg ?_ ?_
           focus (go_simp; done)
           go_simp
           refine hK _ ?_
           clear hK K)
        | (apply plan_pos
           focus (go_simp; done)
           focus (
             intro W hW
             (first | obtain ⟨d0, d1, d2, d3, d4⟩ := HCE.out W hW | skip)
             go_simp
             first
               | done
               | exact rfl)
           go_simp
           refine hK _ ?_
           clear hK K))
    refine plan_fork3 rfl rfl rfl (fun Q hQ => ?_) (fun Q hQ => ?_) (fun Q hQ => ?_)
    · obtain ⟨v1, wd, hr, h9, hg⟩ := append_nil_edges (HE4.out.below hB) c hcl (by omega) 22 w3.heap.size hB.size
      refine wpList_append_run (by rfl) (.const (.slice none 0 0)) (.tmp 30) 22 22 (by rfl) (by rfl) (by rfl) hr ?_
      replace hB := hB.grown hg hB.size (fun j e => by cases e)
      try replace h11 := h11.kept hg (by simp)
      try replace h15 := h15.kept hg (by simp)
      clear hr hg
      go_wp2
      refine hQ _ _ (fun _ => hB) ?_
      clear hQ Q
      obtain ⟨wc, rfl⟩ : ∃ W, W = wd := ⟨_, rfl⟩
      refine plan_fork rfl rfl (fun Q hQ => ?_) (fun Q hQ => ?_)
      · have HX := Lib.hid (HCE.out wc hB)
        go_wp2
        have h11 := Blk.new wc 41 #[.int .i64 mo.1, .int .i64 mo.2.1, .int .i64 mo.2.2]
        replace hB := hB.alloc hB.size (.cells #[.int .i64 mo.1, .int .i64 mo.2.1, .int .i64 mo.2.2] 41)
        try replace h9 := h9.alloc (.cells #[.int .i64 mo.1, .int .i64 mo.2.1, .int .i64 mo.2.2] 41)
        try replace h15 := h15.alloc (.cells #[.int .i64 mo.1, .int .i64 mo.2.1, .int .i64 mo.2.2] 41)
        refine hQ _ _ (fun _ => hB) ?_
        clear hQ Q HX
        generalize wc.alloc (.cells #[.int .i64 mo.1, .int .i64 mo.2.1, .int .i64 mo.2.2] 41) = wd at *
        generalize wc.heap.size = X at *
        obtain ⟨wc, rfl⟩ : ∃ W, W = wd := ⟨_, rfl⟩
        refine plan_fork rfl rfl (fun Q hQ => ?_) (fun Q hQ => ?_)
        · refine wpList_append_lies _ (by rfl) (.tmp 31) (.tmp 33) 22 (by rfl) w3.heap.size 41 i0 _ 3 24 Try.underlying22 hi0 hx0 hx1 hx2 rfl (by decide) v1 c (flat (es.take c)) (by rfl) h9 ⟨X, 0, none⟩ 1 1 [.int .i64 mo.1, .int .i64 mo.2.1, .int .i64 mo.2.2] (by rfl) (by rfl) (World.news_of_block h11) (by simp [Value.oneCell']) (by omega) (by simp [maxLen]; omega) (by omega) hB.size wc.heap.size rfl ?_
          intro gg cap' wd h12 hg _ _
          replace hB := hB.grown hg hB.size (fun j e => (h9.lt j e).1)
          try replace h15 := h15.kept hg (own_blk_ne h9 h15 (by decide)).symm
          clear hg h9 h11
          go_wp2
          refine hQ _ _ (fun _ => hB) ?_
          clear hQ Q
          obtain ⟨wc, rfl⟩ : ∃ W, W = wd := ⟨_, rfl⟩
          repeat (
            refine plan_read rfl (fun K hK => ?_)
            first
              | (refine plan_neg ?_ ?_
                 focus (go_simp; done)
                 go_simp
                 refine hK _ ?_
                 clear hK K)
              | (apply plan_pos
                 focus (go_simp; done)
                 focus (
                   intro W hW
                   (first | obtain ⟨d0, d1, d2, d3, d4⟩ := HCE.out W hW | skip)
                   go_simp
                   first
                     | done
                     | exact rfl)
                 go_simp
                 refine hK _ ?_
                 clear hK K))
          refine plan_fork rfl rfl (fun Q hQ => ?_) (fun Q hQ => ?_)
          · have h12' : wc.ownsRow w3.heap.size 41 3 (.slice (some ⟨gg, 0, none⟩) (c + 1) cap') (es.take c ++ [mo]).length (flat (es.take c ++ [mo])) := by rw [HLEN.out, flat_snoc]; exact h12
            have HN12 := Lib.hid (edges_own h12' (by rw [HLEN.out]; omega)).2
            clear h12'
            go_wp2_with (go_at_call 22; (with_reducible refine (fit_any _ _ _ _ (es.take c ++ [mo]) _ HN12.out HV.out HWM.out).mono ?_); rintro e wd ⟨a5, cap5, rfl, h14, hb⟩; rw [HNN.out] at h14 ⊢)
            replace hB := hB.trans (hb.mono hB.size)
            try replace h15 := h15.below hb h15.lt
            refine hQ _ _ (fun _ => hB) ?_
            clear hQ Q HN12 h12 hb
            obtain ⟨wc, rfl⟩ : ∃ W, W = wd := ⟨_, rfl⟩
            refine plan_only rfl (fun Q hQ => ?_)
            go_wp2
            have h15 := Blk.new wc 24 #[.int .i64 0, .slice none 0 0]
            have hM := hB.size
            replace hB := hB.alloc hB.size (.cells #[.int .i64 0, .slice none 0 0] 24)
            try replace h9 := h9.alloc (.cells #[.int .i64 0, .slice none 0 0] 24)
            try replace h11 := h11.alloc (.cells #[.int .i64 0, .slice none 0 0] 24)
            try replace h12 := h12.alloc (.cells #[.int .i64 0, .slice none 0 0] 24)
            try replace h14 := (h14.below ((Below.refl _ wc).alloc (Nat.le_refl _) (.cells #[.int .i64 0, .slice none 0 0] 24))).more (B' := (wc.alloc (.cells #[.int .i64 0, .slice none 0 0] 24)).heap.size) (by simp)
            refine hQ _ _ (fun _ => hB) ?_
            clear hQ Q
            generalize wc.alloc (.cells #[.int .i64 0, .slice none 0 0] 24) = wd at *
            generalize wc.heap.size = M at *
            obtain ⟨wc, rfl⟩ : ∃ W, W = wd := ⟨_, rfl⟩
            refine plan_only rfl (fun Q hQ => ?_)
            obtain ⟨lM, y0, y1⟩ := h15.two
            have yf0 := h15.frozen 0
            have yf1 := h15.frozen 1
            go_wp2
            have h14' := (h14.off (i := 0) h15 (.int .i64 (n : Int))).off (i := 1) (h15.set 0 (.int .i64 (n : Int))) (.slice a5 (fitEs n (es.take c ++ [mo])).length cap5)
            replace h14 : NetAt ((wc.setCell ⟨M, 0, none⟩ (.int .i64 (n : Int))).setCell ⟨M, 1, none⟩ (.slice a5 (fitEs n (es.take c ++ [mo])).length cap5)).heap.size _ _ _ _ := h14'.more (by simp)
            replace h15 := (h15.set 0 (.int .i64 (n : Int))).set 1 (.slice a5 (fitEs n (es.take c ++ [mo])).length cap5)
            replace hB := (hB.setCell (p := ⟨M, 0, none⟩) hM (.int .i64 (n : Int))).setCell (p := ⟨M, 1, none⟩) hM (.slice a5 (fitEs n (es.take c ++ [mo])).length cap5)
            refine hQ _ _ (fun h => absurd h (by omega)) ?_
            clear hQ Q h14' y0 y1 yf0 yf1
            unfold Plan.wp
            go_wp2_with fail
            go_meet
            exact ⟨M, a5, cap5, rfl, hM, h15, h14, hB⟩
          · go_wp2
            have h15 := Blk.new wc 24 #[.int .i64 0, .slice none 0 0]
            have hM := hB.size
            replace hB := hB.alloc hB.size (.cells #[.int .i64 0, .slice none 0 0] 24)
            try replace h9 := h9.alloc (.cells #[.int .i64 0, .slice none 0 0] 24)
            try replace h11 := h11.alloc (.cells #[.int .i64 0, .slice none 0 0] 24)
            try replace h12 := h12.alloc (.cells #[.int .i64 0, .slice none 0 0] 24)
            try replace h14 := (h14.below ((Below.refl _ wc).alloc (Nat.le_refl _) (.cells #[.int .i64 0, .slice none 0 0] 24))).more (B' := (wc.alloc (.cells #[.int .i64 0, .slice none 0 0] 24)).heap.size) (by simp)
            refine hQ _ _ (fun _ => hB) ?_
            clear hQ Q
            generalize wc.alloc (.cells #[.int .i64 0, .slice none 0 0] 24) = wd at *
            generalize wc.heap.size = M at *
            obtain ⟨wc, rfl⟩ : ∃ W, W = wd := ⟨_, rfl⟩
            refine plan_only rfl (fun Q hQ => ?_)
            have h12' : wc.ownsRow w3.heap.size 41 3 (.slice (some ⟨gg, 0, none⟩) (c + 1) cap') (es.take c ++ [mo]).length (flat (es.take c ++ [mo])) := by rw [HLEN.out, flat_snoc]; exact h12
            have HN12 := Lib.hid (edges_own h12' (by rw [HLEN.out]; omega)).2
            clear h12'
            go_wp2_with (go_at_call 22; (with_reducible refine (fit_any _ _ _ _ (es.take c ++ [mo]) _ HN12.out HV.out HWM.out).mono ?_); rintro e wd ⟨a5, cap5, rfl, h14, hb⟩; rw [HNN.out] at h14 ⊢)
            replace hB := hB.trans (hb.mono hB.size)
            try replace h15 := h15.below hb h15.lt
            refine hQ _ _ (fun _ => hB) ?_
            clear hQ Q HN12 h12 hb
            obtain ⟨wc, rfl⟩ : ∃ W, W = wd := ⟨_, rfl⟩
            refine plan_only rfl (fun Q hQ => ?_)
            obtain ⟨lM, y0, y1⟩ := h15.two
            have yf0 := h15.frozen 0
            have yf1 := h15.frozen 1
            go_wp2
            have h14' := (h14.off (i := 0) h15 (.int .i64 (n : Int))).off (i := 1) (h15.set 0 (.int .i64 (n : Int))) (.slice a5 (fitEs n (es.take c ++ [mo])).length cap5)
            replace h14 : NetAt ((wc.setCell ⟨M, 0, none⟩ (.int .i64 (n : Int))).setCell ⟨M, 1, none⟩ (.slice a5 (fitEs n (es.take c ++ [mo])).length cap5)).heap.size _ _ _ _ := h14'.more (by simp)
            replace h15 := (h15.set 0 (.int .i64 (n : Int))).set 1 (.slice a5 (fitEs n (es.take c ++ [mo])).length cap5)
            replace hB := (hB.setCell (p := ⟨M, 0, none⟩) hM (.int .i64 (n : Int))).setCell (p := ⟨M, 1, none⟩) hM (.slice a5 (fitEs n (es.take c ++ [mo])).length cap5)
            refine hQ _ _ (fun h => absurd h (by omega)) ?_
            clear hQ Q h14' y0 y1 yf0 yf1
            unfold Plan.wp
            go_wp2_with fail
            go_meet
            exact ⟨M, a5, cap5, rfl, hM, h15, h14, hB⟩
        · go_wp2
          have h15 := Blk.new wc 24 #[.int .i64 0, .slice none 0 0]
          have hM := hB.size
          replace hB := hB.alloc hB.size (.cells #[.int .i64 0, .slice none 0 0] 24)
          try replace h9 := h9.alloc (.cells #[.int .i64 0, .slice none 0 0] 24)
          try replace h11 := h11.alloc (.cells #[.int .i64 0, .slice none 0 0] 24)
          try replace h12 := h12.alloc (.cells #[.int .i64 0, .slice none 0 0] 24)
          try replace h14 := (h14.below ((Below.refl _ wc).alloc (Nat.le_refl _) (.cells #[.int .i64 0, .slice none 0 0] 24))).more (B' := (wc.alloc (.cells #[.int .i64 0, .slice none 0 0] 24)).heap.size) (by simp)
          refine hQ _ _ (fun _ => hB) ?_
          clear hQ Q
          generalize wc.alloc (.cells #[.int .i64 0, .slice none 0 0] 24) = wd at *
          generalize wc.heap.size = M at *
          obtain ⟨wc, rfl⟩ : ∃ W, W = wd := ⟨_, rfl⟩
          refine plan_only rfl (fun Q hQ => ?_)
          refine wpList_append_lies _ (by rfl) (.tmp 31) (.tmp 33) 22 (by rfl) w3.heap.size 41 i0 _ 3 24 Try.underlying22 hi0 hx0 hx1 hx2 rfl (by decide) v1 c (flat (es.take c)) (by rfl) h9 ⟨X, 0, none⟩ 1 1 [.int .i64 mo.1, .int .i64 mo.2.1, .int .i64 mo.2.2] (by rfl) (by rfl) (World.news_of_block h11) (by simp [Value.oneCell']) (by omega) (by simp [maxLen]; omega) (by omega) hB.size wc.heap.size rfl ?_
          intro gg cap' wd h12 hg _ _
          replace hB := hB.grown hg hB.size (fun j e => (h9.lt j e).1)
          try replace h15 := h15.kept hg (own_blk_ne h9 h15 (by decide)).symm
          clear hg h9 h11
          go_wp2
          refine hQ _ _ (fun _ => hB) ?_
          clear hQ Q
          obtain ⟨wc, rfl⟩ : ∃ W, W = wd := ⟨_, rfl⟩
          repeat (
            refine plan_read rfl (fun K hK => ?_)
            first
              | (refine plan_neg ?_ ?_
                 focus (go_simp; done)
                 go_simp
                 refine hK _ ?_
                 clear hK K)
              | (apply plan_pos
                 focus (go_simp; done)
                 focus (
                   intro W hW
                   (first | obtain ⟨d0, d1, d2, d3, d4⟩ := HCE.out W hW | skip)
                   go_simp
                   first
                     | done
                     | exact rfl)
                 go_simp
                 refine hK _ ?_
                 clear hK K))
          refine plan_only rfl (fun Q hQ => ?_)
          have h12' : wc.ownsRow w3.heap.size 41 3 (.slice (some ⟨gg, 0, none⟩) (c + 1) cap') (es.take c ++ [mo]).length (flat (es.take c ++ [mo])) := by rw [HLEN.out, flat_snoc]; exact h12
          have HN12 := Lib.hid (edges_own h12' (by rw [HLEN.out]; omega)).2
          clear h12'
          go_wp2_with (go_at_call 22; (with_reducible refine (fit_any _ _ _ _ (es.take c ++ [mo]) _ HN12.out HV.out HWM.out).mono ?_); rintro e wd ⟨a5, cap5, rfl, h14, hb⟩; rw [HNN.out] at h14 ⊢)
          replace hB := hB.trans (hb.mono hB.size)
          try replace h15 := h15.below hb h15.lt
          refine hQ _ _ (fun _ => hB) ?_
          clear hQ Q HN12 h12 hb
          obtain ⟨wc, rfl⟩ : ∃ W, W = wd := ⟨_, rfl⟩
          refine plan_only rfl (fun Q hQ => ?_)
          obtain ⟨lM, y0, y1⟩ := h15.two
          have yf0 := h15.frozen 0
          have yf1 := h15.frozen 1
          go_wp2
          have h14' := (h14.off (i := 0) h15 (.int .i64 (n : Int))).off (i := 1) (h15.set 0 (.int .i64 (n : Int))) (.slice a5 (fitEs n (es.take c ++ [mo])).length cap5)
          replace h14 : NetAt ((wc.setCell ⟨M, 0, none⟩ (.int .i64 (n : Int))).setCell ⟨M, 1, none⟩ (.slice a5 (fitEs n (es.take c ++ [mo])).length cap5)).heap.size _ _ _ _ := h14'.more (by simp)
          replace h15 := (h15.set 0 (.int .i64 (n : Int))).set 1 (.slice a5 (fitEs n (es.take c ++ [mo])).length cap5)
          replace hB := (hB.setCell (p := ⟨M, 0, none⟩) hM (.int .i64 (n : Int))).setCell (p := ⟨M, 1, none⟩) hM (.slice a5 (fitEs n (es.take c ++ [mo])).length cap5)
          refine hQ _ _ (fun h => absurd h (by omega)) ?_
          clear hQ Q h14' y0 y1 yf0 yf1
          unfold Plan.wp
          go_wp2_with fail
          go_meet
          exact ⟨M, a5, cap5, rfl, hM, h15, h14, hB⟩
      · go_wp2
        have h15 := Blk.new wc 24 #[.int .i64 0, .slice none 0 0]
        have hM := hB.size
        replace hB := hB.alloc hB.size (.cells #[.int .i64 0, .slice none 0 0] 24)
        try replace h9 := h9.alloc (.cells #[.int .i64 0, .slice none 0 0] 24)
        try replace h11 := h11.alloc (.cells #[.int .i64 0, .slice none 0 0] 24)
        try replace h12 := h12.alloc (.cells #[.int .i64 0, .slice none 0 0] 24)
        try replace h14 := (h14.below ((Below.refl _ wc).alloc (Nat.le_refl _) (.cells #[.int .i64 0, .slice none 0 0] 24))).more (B' := (wc.alloc (.cells #[.int .i64 0, .slice none 0 0] 24)).heap.size) (by simp)
        refine hQ _ _ (fun _ => hB) ?_
        clear hQ Q
        generalize wc.alloc (.cells #[.int .i64 0, .slice none 0 0] 24) = wd at *
        generalize wc.heap.size = M at *
        obtain ⟨wc, rfl⟩ : ∃ W, W = wd := ⟨_, rfl⟩
        refine plan_only rfl (fun Q hQ => ?_)
        have HX := Lib.hid (HCE.out wc hB)
        go_wp2
        have h11 := Blk.new wc 41 #[.int .i64 mo.1, .int .i64 mo.2.1, .int .i64 mo.2.2]
        replace hB := hB.alloc hB.size (.cells #[.int .i64 mo.1, .int .i64 mo.2.1, .int .i64 mo.2.2] 41)
        try replace h9 := h9.alloc (.cells #[.int .i64 mo.1, .int .i64 mo.2.1, .int .i64 mo.2.2] 41)
        try replace h15 := h15.alloc (.cells #[.int .i64 mo.1, .int .i64 mo.2.1, .int .i64 mo.2.2] 41)
        refine hQ _ _ (fun _ => hB) ?_
        clear hQ Q HX
        generalize wc.alloc (.cells #[.int .i64 mo.1, .int .i64 mo.2.1, .int .i64 mo.2.2] 41) = wd at *
        generalize wc.heap.size = X at *
        obtain ⟨wc, rfl⟩ : ∃ W, W = wd := ⟨_, rfl⟩
        refine plan_only rfl (fun Q hQ => ?_)
        refine wpList_append_lies _ (by rfl) (.tmp 31) (.tmp 33) 22 (by rfl) w3.heap.size 41 i0 _ 3 24 Try.underlying22 hi0 hx0 hx1 hx2 rfl (by decide) v1 c (flat (es.take c)) (by rfl) h9 ⟨X, 0, none⟩ 1 1 [.int .i64 mo.1, .int .i64 mo.2.1, .int .i64 mo.2.2] (by rfl) (by rfl) (World.news_of_block h11) (by simp [Value.oneCell']) (by omega) (by simp [maxLen]; omega) (by omega) hB.size wc.heap.size rfl ?_
        intro gg cap' wd h12 hg _ _
        replace hB := hB.grown hg hB.size (fun j e => (h9.lt j e).1)
        try replace h15 := h15.kept hg (own_blk_ne h9 h15 (by decide)).symm
        clear hg h9 h11
        go_wp2
        refine hQ _ _ (fun _ => hB) ?_
        clear hQ Q
        obtain ⟨wc, rfl⟩ : ∃ W, W = wd := ⟨_, rfl⟩
        repeat (
          refine plan_read rfl (fun K hK => ?_)
          first
            | (refine plan_neg ?_ ?_
               focus (go_simp; done)
               go_simp
               refine hK _ ?_
               clear hK K)
            | (apply plan_pos
               focus (go_simp; done)
               focus (
                 intro W hW
                 (first | obtain ⟨d0, d1, d2, d3, d4⟩ := HCE.out W hW | skip)
                 go_simp
                 first
                   | done
                   | exact rfl)
               go_simp
               refine hK _ ?_
               clear hK K))
        refine plan_only rfl (fun Q hQ => ?_)
        have h12' : wc.ownsRow w3.heap.size 41 3 (.slice (some ⟨gg, 0, none⟩) (c + 1) cap') (es.take c ++ [mo]).length (flat (es.take c ++ [mo])) := by rw [HLEN.out, flat_snoc]; exact h12
        have HN12 := Lib.hid (edges_own h12' (by rw [HLEN.out]; omega)).2
        clear h12'
        go_wp2_with (go_at_call 22; (with_reducible refine (fit_any _ _ _ _ (es.take c ++ [mo]) _ HN12.out HV.out HWM.out).mono ?_); rintro e wd ⟨a5, cap5, rfl, h14, hb⟩; rw [HNN.out] at h14 ⊢)
        replace hB := hB.trans (hb.mono hB.size)
        try replace h15 := h15.below hb h15.lt
        refine hQ _ _ (fun _ => hB) ?_
        clear hQ Q HN12 h12 hb
        obtain ⟨wc, rfl⟩ : ∃ W, W = wd := ⟨_, rfl⟩
        refine plan_only rfl (fun Q hQ => ?_)
        obtain ⟨lM, y0, y1⟩ := h15.two
        have yf0 := h15.frozen 0
        have yf1 := h15.frozen 1
        go_wp2
        have h14' := (h14.off (i := 0) h15 (.int .i64 (n : Int))).off (i := 1) (h15.set 0 (.int .i64 (n : Int))) (.slice a5 (fitEs n (es.take c ++ [mo])).length cap5)
        replace h14 : NetAt ((wc.setCell ⟨M, 0, none⟩ (.int .i64 (n : Int))).setCell ⟨M, 1, none⟩ (.slice a5 (fitEs n (es.take c ++ [mo])).length cap5)).heap.size _ _ _ _ := h14'.more (by simp)
        replace h15 := (h15.set 0 (.int .i64 (n : Int))).set 1 (.slice a5 (fitEs n (es.take c ++ [mo])).length cap5)
        replace hB := (hB.setCell (p := ⟨M, 0, none⟩) hM (.int .i64 (n : Int))).setCell (p := ⟨M, 1, none⟩) hM (.slice a5 (fitEs n (es.take c ++ [mo])).length cap5)
        refine hQ _ _ (fun h => absurd h (by omega)) ?_
        clear hQ Q h14' y0 y1 yf0 yf1
        unfold Plan.wp
        go_wp2_with fail
        go_meet
        exact ⟨M, a5, cap5, rfl, hM, h15, h14, hB⟩
    · have HX := Lib.hid (HCE.out wc hB)
      go_wp2
      have h11 := Blk.new wc 41 #[.int .i64 mo.1, .int .i64 mo.2.1, .int .i64 mo.2.2]
      replace hB := hB.alloc hB.size (.cells #[.int .i64 mo.1, .int .i64 mo.2.1, .int .i64 mo.2.2] 41)
      try replace h9 := h9.alloc (.cells #[.int .i64 mo.1, .int .i64 mo.2.1, .int .i64 mo.2.2] 41)
      try replace h15 := h15.alloc (.cells #[.int .i64 mo.1, .int .i64 mo.2.1, .int .i64 mo.2.2] 41)
      refine hQ _ _ (fun _ => hB) ?_
      clear hQ Q HX
      generalize wc.alloc (.cells #[.int .i64 mo.1, .int .i64 mo.2.1, .int .i64 mo.2.2] 41) = wd at *
      generalize wc.heap.size = X at *
      obtain ⟨wc, rfl⟩ : ∃ W, W = wd := ⟨_, rfl⟩
      refine plan_fork rfl rfl (fun Q hQ => ?_) (fun Q hQ => ?_)
      · obtain ⟨v1, wd, hr, h9, hg⟩ := append_nil_edges (HE4.out.below hB) c hcl (by omega) 22 w3.heap.size hB.size
        refine wpList_append_run (by rfl) (.const (.slice none 0 0)) (.tmp 30) 22 22 (by rfl) (by rfl) (by rfl) hr ?_
        replace hB := hB.grown hg hB.size (fun j e => by cases e)
        try replace h11 := h11.kept hg (by simp)
        try replace h15 := h15.kept hg (by simp)
        clear hr hg
        go_wp2
        refine hQ _ _ (fun _ => hB) ?_
        clear hQ Q
        obtain ⟨wc, rfl⟩ : ∃ W, W = wd := ⟨_, rfl⟩
        refine plan_fork rfl rfl (fun Q hQ => ?_) (fun Q hQ => ?_)
        · refine wpList_append_lies _ (by rfl) (.tmp 31) (.tmp 33) 22 (by rfl) w3.heap.size 41 i0 _ 3 24 Try.underlying22 hi0 hx0 hx1 hx2 rfl (by decide) v1 c (flat (es.take c)) (by rfl) h9 ⟨X, 0, none⟩ 1 1 [.int .i64 mo.1, .int .i64 mo.2.1, .int .i64 mo.2.2] (by rfl) (by rfl) (World.news_of_block h11) (by simp [Value.oneCell']) (by omega) (by simp [maxLen]; omega) (by omega) hB.size wc.heap.size rfl ?_
          intro gg cap' wd h12 hg _ _
          replace hB := hB.grown hg hB.size (fun j e => (h9.lt j e).1)
          try replace h15 := h15.kept hg (own_blk_ne h9 h15 (by decide)).symm
          clear hg h9 h11
          go_wp2
          refine hQ _ _ (fun _ => hB) ?_
          clear hQ Q
          obtain ⟨wc, rfl⟩ : ∃ W, W = wd := ⟨_, rfl⟩
          repeat (
            refine plan_read rfl (fun K hK => ?_)
            first
              | (refine plan_neg ?_ ?_
                 focus (go_simp; done)
                 go_simp
                 refine hK _ ?_
                 clear hK K)
              | (apply plan_pos
                 focus (go_simp; done)
                 focus (
                   intro W hW
                   (first | obtain ⟨d0, d1, d2, d3, d4⟩ := HCE.out W hW | skip)
                   go_simp
                   first
                     | done
                     | exact rfl)
                 go_simp
                 refine hK _ ?_
                 clear hK K))
          refine plan_fork rfl rfl (fun Q hQ => ?_) (fun Q hQ => ?_)
          · have h12' : wc.ownsRow w3.heap.size 41 3 (.slice (some ⟨gg, 0, none⟩) (c + 1) cap') (es.take c ++ [mo]).length (flat (es.take c ++ [mo])) := by rw [HLEN.out, flat_snoc]; exact h12
            have HN12 := Lib.hid (edges_own h12' (by rw [HLEN.out]; omega)).2
            clear h12'
            go_wp2_with (go_at_call 22; (with_reducible refine (fit_any _ _ _ _ (es.take c ++ [mo]) _ HN12.out HV.out HWM.out).mono ?_); rintro e wd ⟨a5, cap5, rfl, h14, hb⟩; rw [HNN.out] at h14 ⊢)
            replace hB := hB.trans (hb.mono hB.size)
            try replace h15 := h15.below hb h15.lt
            refine hQ _ _ (fun _ => hB) ?_
            clear hQ Q HN12 h12 hb
            obtain ⟨wc, rfl⟩ : ∃ W, W = wd := ⟨_, rfl⟩
            refine plan_only rfl (fun Q hQ => ?_)
            go_wp2
            have h15 := Blk.new wc 24 #[.int .i64 0, .slice none 0 0]
            have hM := hB.size
            replace hB := hB.alloc hB.size (.cells #[.int .i64 0, .slice none 0 0] 24)
            try replace h9 := h9.alloc (.cells #[.int .i64 0, .slice none 0 0] 24)
            try replace h11 := h11.alloc (.cells #[.int .i64 0, .slice none 0 0] 24)
            try replace h12 := h12.alloc (.cells #[.int .i64 0, .slice none 0 0] 24)
            try replace h14 := (h14.below ((Below.refl _ wc).alloc (Nat.le_refl _) (.cells #[.int .i64 0, .slice none 0 0] 24))).more (B' := (wc.alloc (.cells #[.int .i64 0, .slice none 0 0] 24)).heap.size) (by simp)
            refine hQ _ _ (fun _ => hB) ?_
            clear hQ Q
            generalize wc.alloc (.cells #[.int .i64 0, .slice none 0 0] 24) = wd at *
            generalize wc.heap.size = M at *
            obtain ⟨wc, rfl⟩ : ∃ W, W = wd := ⟨_, rfl⟩
            refine plan_only rfl (fun Q hQ => ?_)
            obtain ⟨lM, y0, y1⟩ := h15.two
            have yf0 := h15.frozen 0
            have yf1 := h15.frozen 1
            go_wp2
            have h14' := (h14.off (i := 0) h15 (.int .i64 (n : Int))).off (i := 1) (h15.set 0 (.int .i64 (n : Int))) (.slice a5 (fitEs n (es.take c ++ [mo])).length cap5)
            replace h14 : NetAt ((wc.setCell ⟨M, 0, none⟩ (.int .i64 (n : Int))).setCell ⟨M, 1, none⟩ (.slice a5 (fitEs n (es.take c ++ [mo])).length cap5)).heap.size _ _ _ _ := h14'.more (by simp)
            replace h15 := (h15.set 0 (.int .i64 (n : Int))).set 1 (.slice a5 (fitEs n (es.take c ++ [mo])).length cap5)
            replace hB := (hB.setCell (p := ⟨M, 0, none⟩) hM (.int .i64 (n : Int))).setCell (p := ⟨M, 1, none⟩) hM (.slice a5 (fitEs n (es.take c ++ [mo])).length cap5)
            refine hQ _ _ (fun h => absurd h (by omega)) ?_
            clear hQ Q h14' y0 y1 yf0 yf1
            unfold Plan.wp
            go_wp2_with fail
            go_meet
            exact ⟨M, a5, cap5, rfl, hM, h15, h14, hB⟩
          · go_wp2
            have h15 := Blk.new wc 24 #[.int .i64 0, .slice none 0 0]
            have hM := hB.size
            replace hB := hB.alloc hB.size (.cells #[.int .i64 0, .slice none 0 0] 24)
            try replace h9 := h9.alloc (.cells #[.int .i64 0, .slice none 0 0] 24)
            try replace h11 := h11.alloc (.cells #[.int .i64 0, .slice none 0 0] 24)
            try replace h12 := h12.alloc (.cells #[.int .i64 0, .slice none 0 0] 24)
            try replace h14 := (h14.below ((Below.refl _ wc).alloc (Nat.le_refl _) (.cells #[.int .i64 0, .slice none 0 0] 24))).more (B' := (wc.alloc (.cells #[.int .i64 0, .slice none 0 0] 24)).heap.size) (by simp)
            refine hQ _ _ (fun _ => hB) ?_
            clear hQ Q
            generalize wc.alloc (.cells #[.int .i64 0, .slice none 0 0] 24) = wd at *
            generalize wc.heap.size = M at *
            obtain ⟨wc, rfl⟩ : ∃ W, W = wd := ⟨_, rfl⟩
            refine plan_only rfl (fun Q hQ => ?_)
            have h12' : wc.ownsRow w3.heap.size 41 3 (.slice (some ⟨gg, 0, none⟩) (c + 1) cap') (es.take c ++ [mo]).length (flat (es.take c ++ [mo])) := by rw [HLEN.out, flat_snoc]; exact h12
            have HN12 := Lib.hid (edges_own h12' (by rw [HLEN.out]; omega)).2
            clear h12'
            go_wp2_with (go_at_call 22; (with_reducible refine (fit_any _ _ _ _ (es.take c ++ [mo]) _ HN12.out HV.out HWM.out).mono ?_); rintro e wd ⟨a5, cap5, rfl, h14, hb⟩; rw [HNN.out] at h14 ⊢)
            replace hB := hB.trans (hb.mono hB.size)
            try replace h15 := h15.below hb h15.lt
            refine hQ _ _ (fun _ => hB) ?_
            clear hQ Q HN12 h12 hb
            obtain ⟨wc, rfl⟩ : ∃ W, W = wd := ⟨_, rfl⟩
            refine plan_only rfl (fun Q hQ => ?_)
            obtain ⟨lM, y0, y1⟩ := h15.two
            have yf0 := h15.frozen 0
            have yf1 := h15.frozen 1
            go_wp2
            have h14' := (h14.off (i := 0) h15 (.int .i64 (n : Int))).off (i := 1) (h15.set 0 (.int .i64 (n : Int))) (.slice a5 (fitEs n (es.take c ++ [mo])).length cap5)
            replace h14 : NetAt ((wc.setCell ⟨M, 0, none⟩ (.int .i64 (n : Int))).setCell ⟨M, 1, none⟩ (.slice a5 (fitEs n (es.take c ++ [mo])).length cap5)).heap.size _ _ _ _ := h14'.more (by simp)
            replace h15 := (h15.set 0 (.int .i64 (n : Int))).set 1 (.slice a5 (fitEs n (es.take c ++ [mo])).length cap5)
            replace hB := (hB.setCell (p := ⟨M, 0, none⟩) hM (.int .i64 (n : Int))).setCell (p := ⟨M, 1, none⟩) hM (.slice a5 (fitEs n (es.take c ++ [mo])).length cap5)
            refine hQ _ _ (fun h => absurd h (by omega)) ?_
            clear hQ Q h14' y0 y1 yf0 yf1
            unfold Plan.wp
            go_wp2_with fail
            go_meet
            exact ⟨M, a5, cap5, rfl, hM, h15, h14, hB⟩
        · go_wp2
          have h15 := Blk.new wc 24 #[.int .i64 0, .slice none 0 0]
          have hM := hB.size
          replace hB := hB.alloc hB.size (.cells #[.int .i64 0, .slice none 0 0] 24)
          try replace h9 := h9.alloc (.cells #[.int .i64 0, .slice none 0 0] 24)
          try replace h11 := h11.alloc (.cells #[.int .i64 0, .slice none 0 0] 24)
          try replace h12 := h12.alloc (.cells #[.int .i64 0, .slice none 0 0] 24)
          try replace h14 := (h14.below ((Below.refl _ wc).alloc (Nat.le_refl _) (.cells #[.int .i64 0, .slice none 0 0] 24))).more (B' := (wc.alloc (.cells #[.int .i64 0, .slice none 0 0] 24)).heap.size) (by simp)
          refine hQ _ _ (fun _ => hB) ?_
          clear hQ Q
          generalize wc.alloc (.cells #[.int .i64 0, .slice none 0 0] 24) = wd at *
          generalize wc.heap.size = M at *
          obtain ⟨wc, rfl⟩ : ∃ W, W = wd := ⟨_, rfl⟩
          refine plan_only rfl (fun Q hQ => ?_)
          refine wpList_append_lies _ (by rfl) (.tmp 31) (.tmp 33) 22 (by rfl) w3.heap.size 41 i0 _ 3 24 Try.underlying22 hi0 hx0 hx1 hx2 rfl (by decide) v1 c (flat (es.take c)) (by rfl) h9 ⟨X, 0, none⟩ 1 1 [.int .i64 mo.1, .int .i64 mo.2.1, .int .i64 mo.2.2] (by rfl) (by rfl) (World.news_of_block h11) (by simp [Value.oneCell']) (by omega) (by simp [maxLen]; omega) (by omega) hB.size wc.heap.size rfl ?_
          intro gg cap' wd h12 hg _ _
          replace hB := hB.grown hg hB.size (fun j e => (h9.lt j e).1)
          try replace h15 := h15.kept hg (own_blk_ne h9 h15 (by decide)).symm
          clear hg h9 h11
          go_wp2
          refine hQ _ _ (fun _ => hB) ?_
          clear hQ Q
          obtain ⟨wc, rfl⟩ : ∃ W, W = wd := ⟨_, rfl⟩
          repeat (
            refine plan_read rfl (fun K hK => ?_)
            first
              | (refine plan_neg ?_ ?_
                 focus (go_simp; done)
                 go_simp
                 refine hK _ ?_
                 clear hK K)
              | (apply plan_pos
                 focus (go_simp; done)
                 focus (
                   intro W hW
                   (first | obtain ⟨d0, d1, d2, d3, d4⟩ := HCE.out W hW | skip)
                   go_simp
                   first
                     | done
                     | exact rfl)
                 go_simp
                 refine hK _ ?_
                 clear hK K))
          refine plan_only rfl (fun Q hQ => ?_)
          have h12' : wc.ownsRow w3.heap.size 41 3 (.slice (some ⟨gg, 0, none⟩) (c + 1) cap') (es.take c ++ [mo]).length (flat (es.take c ++ [mo])) := by rw [HLEN.out, flat_snoc]; exact h12
          have HN12 := Lib.hid (edges_own h12' (by rw [HLEN.out]; omega)).2
          clear h12'
          go_wp2_with (go_at_call 22; (with_reducible refine (fit_any _ _ _ _ (es.take c ++ [mo]) _ HN12.out HV.out HWM.out).mono ?_); rintro e wd ⟨a5, cap5, rfl, h14, hb⟩; rw [HNN.out] at h14 ⊢)
          replace hB := hB.trans (hb.mono hB.size)
          try replace h15 := h15.below hb h15.lt
          refine hQ _ _ (fun _ => hB) ?_
          clear hQ Q HN12 h12 hb
          obtain ⟨wc, rfl⟩ : ∃ W, W = wd := ⟨_, rfl⟩
          refine plan_only rfl (fun Q hQ => ?_)
          obtain ⟨lM, y0, y1⟩ := h15.two
          have yf0 := h15.frozen 0
          have yf1 := h15.frozen 1
          go_wp2
          have h14' := (h14.off (i := 0) h15 (.int .i64 (n : Int))).off (i := 1) (h15.set 0 (.int .i64 (n : Int))) (.slice a5 (fitEs n (es.take c ++ [mo])).length cap5)
          replace h14 : NetAt ((wc.setCell ⟨M, 0, none⟩ (.int .i64 (n : Int))).setCell ⟨M, 1, none⟩ (.slice a5 (fitEs n (es.take c ++ [mo])).length cap5)).heap.size _ _ _ _ := h14'.more (by simp)
          replace h15 := (h15.set 0 (.int .i64 (n : Int))).set 1 (.slice a5 (fitEs n (es.take c ++ [mo])).length cap5)
          replace hB := (hB.setCell (p := ⟨M, 0, none⟩) hM (.int .i64 (n : Int))).setCell (p := ⟨M, 1, none⟩) hM (.slice a5 (fitEs n (es.take c ++ [mo])).length cap5)
          refine hQ _ _ (fun h => absurd h (by omega)) ?_
          clear hQ Q h14' y0 y1 yf0 yf1
          unfold Plan.wp
          go_wp2_with fail
          go_meet
          exact ⟨M, a5, cap5, rfl, hM, h15, h14, hB⟩
      · go_wp2
        have h15 := Blk.new wc 24 #[.int .i64 0, .slice none 0 0]
        have hM := hB.size
        replace hB := hB.alloc hB.size (.cells #[.int .i64 0, .slice none 0 0] 24)
        try replace h9 := h9.alloc (.cells #[.int .i64 0, .slice none 0 0] 24)
        try replace h11 := h11.alloc (.cells #[.int .i64 0, .slice none 0 0] 24)
        try replace h12 := h12.alloc (.cells #[.int .i64 0, .slice none 0 0] 24)
        try replace h14 := (h14.below ((Below.refl _ wc).alloc (Nat.le_refl _) (.cells #[.int .i64 0, .slice none 0 0] 24))).more (B' := (wc.alloc (.cells #[.int .i64 0, .slice none 0 0] 24)).heap.size) (by simp)
        refine hQ _ _ (fun _ => hB) ?_
        clear hQ Q
        generalize wc.alloc (.cells #[.int .i64 0, .slice none 0 0] 24) = wd at *
        generalize wc.heap.size = M at *
        obtain ⟨wc, rfl⟩ : ∃ W, W = wd := ⟨_, rfl⟩
        refine plan_only rfl (fun Q hQ => ?_)
        obtain ⟨v1, wd, hr, h9, hg⟩ := append_nil_edges (HE4.out.below hB) c hcl (by omega) 22 w3.heap.size hB.size
        refine wpList_append_run (by rfl) (.const (.slice none 0 0)) (.tmp 30) 22 22 (by rfl) (by rfl) (by rfl) hr ?_
        replace hB := hB.grown hg hB.size (fun j e => by cases e)
        try replace h11 := h11.kept hg (by simp)
        try replace h15 := h15.kept hg (by simp)
        clear hr hg
        go_wp2
        refine hQ _ _ (fun _ => hB) ?_
        clear hQ Q
        obtain ⟨wc, rfl⟩ : ∃ W, W = wd := ⟨_, rfl⟩
        refine plan_only rfl (fun Q hQ => ?_)
        refine wpList_append_lies _ (by rfl) (.tmp 31) (.tmp 33) 22 (by rfl) w3.heap.size 41 i0 _ 3 24 Try.underlying22 hi0 hx0 hx1 hx2 rfl (by decide) v1 c (flat (es.take c)) (by rfl) h9 ⟨X, 0, none⟩ 1 1 [.int .i64 mo.1, .int .i64 mo.2.1, .int .i64 mo.2.2] (by rfl) (by rfl) (World.news_of_block h11) (by simp [Value.oneCell']) (by omega) (by simp [maxLen]; omega) (by omega) hB.size wc.heap.size rfl ?_
        intro gg cap' wd h12 hg _ _
        replace hB := hB.grown hg hB.size (fun j e => (h9.lt j e).1)
        try replace h15 := h15.kept hg (own_blk_ne h9 h15 (by decide)).symm
        clear hg h9 h11
        go_wp2
        refine hQ _ _ (fun _ => hB) ?_
        clear hQ Q
        obtain ⟨wc, rfl⟩ : ∃ W, W = wd := ⟨_, rfl⟩
        repeat (
          refine plan_read rfl (fun K hK => ?_)
          first
            | (refine plan_neg ?_ ?_
               focus (go_simp; done)
               go_simp
               refine hK _ ?_
               clear hK K)
            | (apply plan_pos
               focus (go_simp; done)
               focus (
                 intro W hW
                 (first | obtain ⟨d0, d1, d2, d3, d4⟩ := HCE.out W hW | skip)
                 go_simp
                 first
                   | done
                   | exact rfl)
               go_simp
               refine hK _ ?_
               clear hK K))
        refine plan_only rfl (fun Q hQ => ?_)
        have h12' : wc.ownsRow w3.heap.size 41 3 (.slice (some ⟨gg, 0, none⟩) (c + 1) cap') (es.take c ++ [mo]).length (flat (es.take c ++ [mo])) := by rw [HLEN.out, flat_snoc]; exact h12
        have HN12 := Lib.hid (edges_own h12' (by rw [HLEN.out]; omega)).2
        clear h12'
        go_wp2_with (go_at_call 22; (with_reducible refine (fit_any _ _ _ _ (es.take c ++ [mo]) _ HN12.out HV.out HWM.out).mono ?_); rintro e wd ⟨a5, cap5, rfl, h14, hb⟩; rw [HNN.out] at h14 ⊢)
        replace hB := hB.trans (hb.mono hB.size)
        try replace h15 := h15.below hb h15.lt
        refine hQ _ _ (fun _ => hB) ?_
        clear hQ Q HN12 h12 hb
        obtain ⟨wc, rfl⟩ : ∃ W, W = wd := ⟨_, rfl⟩
        refine plan_only rfl (fun Q hQ => ?_)
        obtain ⟨lM, y0, y1⟩ := h15.two
        have yf0 := h15.frozen 0
        have yf1 := h15.frozen 1
        go_wp2
        have h14' := (h14.off (i := 0) h15 (.int .i64 (n : Int))).off (i := 1) (h15.set 0 (.int .i64 (n : Int))) (.slice a5 (fitEs n (es.take c ++ [mo])).length cap5)
        replace h14 : NetAt ((wc.setCell ⟨M, 0, none⟩ (.int .i64 (n : Int))).setCell ⟨M, 1, none⟩ (.slice a5 (fitEs n (es.take c ++ [mo])).length cap5)).heap.size _ _ _ _ := h14'.more (by simp)
        replace h15 := (h15.set 0 (.int .i64 (n : Int))).set 1 (.slice a5 (fitEs n (es.take c ++ [mo])).length cap5)
        replace hB := (hB.setCell (p := ⟨M, 0, none⟩) hM (.int .i64 (n : Int))).setCell (p := ⟨M, 1, none⟩) hM (.slice a5 (fitEs n (es.take c ++ [mo])).length cap5)
        refine hQ _ _ (fun h => absurd h (by omega)) ?_
        clear hQ Q h14' y0 y1 yf0 yf1
        unfold Plan.wp
        go_wp2_with fail
        go_meet
        exact ⟨M, a5, cap5, rfl, hM, h15, h14, hB⟩
    · go_wp2
      have h15 := Blk.new wc 24 #[.int .i64 0, .slice none 0 0]
      have hM := hB.size
      replace hB := hB.alloc hB.size (.cells #[.int .i64 0, .slice none 0 0] 24)
      try replace h9 := h9.alloc (.cells #[.int .i64 0, .slice none 0 0] 24)
      try replace h11 := h11.alloc (.cells #[.int .i64 0, .slice none 0 0] 24)
      try replace h12 := h12.alloc (.cells #[.int .i64 0, .slice none 0 0] 24)
      try replace h14 := (h14.below ((Below.refl _ wc).alloc (Nat.le_refl _) (.cells #[.int .i64 0, .slice none 0 0] 24))).more (B' := (wc.alloc (.cells #[.int .i64 0, .slice none 0 0] 24)).heap.size) (by simp)
      refine hQ _ _ (fun _ => hB) ?_
      clear hQ Q
      generalize wc.alloc (.cells #[.int .i64 0, .slice none 0 0] 24) = wd at *
      generalize wc.heap.size = M at *
      obtain ⟨wc, rfl⟩ : ∃ W, W = wd := ⟨_, rfl⟩
      refine plan_fork rfl rfl (fun Q hQ => ?_) (fun Q hQ => ?_)
      · obtain ⟨v1, wd, hr, h9, hg⟩ := append_nil_edges (HE4.out.below hB) c hcl (by omega) 22 w3.heap.size hB.size
        refine wpList_append_run (by rfl) (.const (.slice none 0 0)) (.tmp 30) 22 22 (by rfl) (by rfl) (by rfl) hr ?_
        replace hB := hB.grown hg hB.size (fun j e => by cases e)
        try replace h11 := h11.kept hg (by simp)
        try replace h15 := h15.kept hg (by simp)
        clear hr hg
        go_wp2
        refine hQ _ _ (fun _ => hB) ?_
        clear hQ Q
        obtain ⟨wc, rfl⟩ : ∃ W, W = wd := ⟨_, rfl⟩
        refine plan_only rfl (fun Q hQ => ?_)
        have HX := Lib.hid (HCE.out wc hB)
        go_wp2
        have h11 := Blk.new wc 41 #[.int .i64 mo.1, .int .i64 mo.2.1, .int .i64 mo.2.2]
        replace hB := hB.alloc hB.size (.cells #[.int .i64 mo.1, .int .i64 mo.2.1, .int .i64 mo.2.2] 41)
        try replace h9 := h9.alloc (.cells #[.int .i64 mo.1, .int .i64 mo.2.1, .int .i64 mo.2.2] 41)
        try replace h15 := h15.alloc (.cells #[.int .i64 mo.1, .int .i64 mo.2.1, .int .i64 mo.2.2] 41)
        refine hQ _ _ (fun _ => hB) ?_
        clear hQ Q HX
        generalize wc.alloc (.cells #[.int .i64 mo.1, .int .i64 mo.2.1, .int .i64 mo.2.2] 41) = wd at *
        generalize wc.heap.size = X at *
        obtain ⟨wc, rfl⟩ : ∃ W, W = wd := ⟨_, rfl⟩
        refine plan_only rfl (fun Q hQ => ?_)
        refine wpList_append_lies _ (by rfl) (.tmp 31) (.tmp 33) 22 (by rfl) w3.heap.size 41 i0 _ 3 24 Try.underlying22 hi0 hx0 hx1 hx2 rfl (by decide) v1 c (flat (es.take c)) (by rfl) h9 ⟨X, 0, none⟩ 1 1 [.int .i64 mo.1, .int .i64 mo.2.1, .int .i64 mo.2.2] (by rfl) (by rfl) (World.news_of_block h11) (by simp [Value.oneCell']) (by omega) (by simp [maxLen]; omega) (by omega) hB.size wc.heap.size rfl ?_
        intro gg cap' wd h12 hg _ _
        replace hB := hB.grown hg hB.size (fun j e => (h9.lt j e).1)
        try replace h15 := h15.kept hg (own_blk_ne h9 h15 (by decide)).symm
        clear hg h9 h11
        go_wp2
        refine hQ _ _ (fun _ => hB) ?_
        clear hQ Q
        obtain ⟨wc, rfl⟩ : ∃ W, W = wd := ⟨_, rfl⟩
        repeat (
          refine plan_read rfl (fun K hK => ?_)
          first
            | (refine plan_neg ?_ ?_
               focus (go_simp; done)
               go_simp
               refine hK _ ?_
               clear hK K)
            | (apply plan_pos
               focus (go_simp; done)
               focus (
                 intro W hW
                 (first | obtain ⟨d0, d1, d2, d3, d4⟩ := HCE.out W hW | skip)
                 go_simp
                 first
                   | done
                   | exact rfl)
               go_simp
               refine hK _ ?_
               clear hK K))
        refine plan_only rfl (fun Q hQ => ?_)
        have h12' : wc.ownsRow w3.heap.size 41 3 (.slice (some ⟨gg, 0, none⟩) (c + 1) cap') (es.take c ++ [mo]).length (flat (es.take c ++ [mo])) := by rw [HLEN.out, flat_snoc]; exact h12
        have HN12 := Lib.hid (edges_own h12' (by rw [HLEN.out]; omega)).2
        clear h12'
        go_wp2_with (go_at_call 22; (with_reducible refine (fit_any _ _ _ _ (es.take c ++ [mo]) _ HN12.out HV.out HWM.out).mono ?_); rintro e wd ⟨a5, cap5, rfl, h14, hb⟩; rw [HNN.out] at h14 ⊢)
        replace hB := hB.trans (hb.mono hB.size)
        try replace h15 := h15.below hb h15.lt
        refine hQ _ _ (fun _ => hB) ?_
        clear hQ Q HN12 h12 hb
        obtain ⟨wc, rfl⟩ : ∃ W, W = wd := ⟨_, rfl⟩
        refine plan_only rfl (fun Q hQ => ?_)
        obtain ⟨lM, y0, y1⟩ := h15.two
        have yf0 := h15.frozen 0
        have yf1 := h15.frozen 1
        go_wp2
        have h14' := (h14.off (i := 0) h15 (.int .i64 (n : Int))).off (i := 1) (h15.set 0 (.int .i64 (n : Int))) (.slice a5 (fitEs n (es.take c ++ [mo])).length cap5)
        replace h14 : NetAt ((wc.setCell ⟨M, 0, none⟩ (.int .i64 (n : Int))).setCell ⟨M, 1, none⟩ (.slice a5 (fitEs n (es.take c ++ [mo])).length cap5)).heap.size _ _ _ _ := h14'.more (by simp)
        replace h15 := (h15.set 0 (.int .i64 (n : Int))).set 1 (.slice a5 (fitEs n (es.take c ++ [mo])).length cap5)
        replace hB := (hB.setCell (p := ⟨M, 0, none⟩) hM (.int .i64 (n : Int))).setCell (p := ⟨M, 1, none⟩) hM (.slice a5 (fitEs n (es.take c ++ [mo])).length cap5)
        refine hQ _ _ (fun h => absurd h (by omega)) ?_
        clear hQ Q h14' y0 y1 yf0 yf1
        unfold Plan.wp
        go_wp2_with fail
        go_meet
        exact ⟨M, a5, cap5, rfl, hM, h15, h14, hB⟩
      · have HX := Lib.hid (HCE.out wc hB)
        go_wp2
        have h11 := Blk.new wc 41 #[.int .i64 mo.1, .int .i64 mo.2.1, .int .i64 mo.2.2]
        replace hB := hB.alloc hB.size (.cells #[.int .i64 mo.1, .int .i64 mo.2.1, .int .i64 mo.2.2] 41)
        try replace h9 := h9.alloc (.cells #[.int .i64 mo.1, .int .i64 mo.2.1, .int .i64 mo.2.2] 41)
        try replace h15 := h15.alloc (.cells #[.int .i64 mo.1, .int .i64 mo.2.1, .int .i64 mo.2.2] 41)
        refine hQ _ _ (fun _ => hB) ?_
        clear hQ Q HX
        generalize wc.alloc (.cells #[.int .i64 mo.1, .int .i64 mo.2.1, .int .i64 mo.2.2] 41) = wd at *
        generalize wc.heap.size = X at *
        obtain ⟨wc, rfl⟩ : ∃ W, W = wd := ⟨_, rfl⟩
        refine plan_only rfl (fun Q hQ => ?_)
        obtain ⟨v1, wd, hr, h9, hg⟩ := append_nil_edges (HE4.out.below hB) c hcl (by omega) 22 w3.heap.size hB.size
        refine wpList_append_run (by rfl) (.const (.slice none 0 0)) (.tmp 30) 22 22 (by rfl) (by rfl) (by rfl) hr ?_
        replace hB := hB.grown hg hB.size (fun j e => by cases e)
        try replace h11 := h11.kept hg (by simp)
        try replace h15 := h15.kept hg (by simp)
        clear hr hg
        go_wp2
        refine hQ _ _ (fun _ => hB) ?_
        clear hQ Q
        obtain ⟨wc, rfl⟩ : ∃ W, W = wd := ⟨_, rfl⟩
        refine plan_only rfl (fun Q hQ => ?_)
        refine wpList_append_lies _ (by rfl) (.tmp 31) (.tmp 33) 22 (by rfl) w3.heap.size 41 i0 _ 3 24 Try.underlying22 hi0 hx0 hx1 hx2 rfl (by decide) v1 c (flat (es.take c)) (by rfl) h9 ⟨X, 0, none⟩ 1 1 [.int .i64 mo.1, .int .i64 mo.2.1, .int .i64 mo.2.2] (by rfl) (by rfl) (World.news_of_block h11) (by simp [Value.oneCell']) (by omega) (by simp [maxLen]; omega) (by omega) hB.size wc.heap.size rfl ?_
        intro gg cap' wd h12 hg _ _
        replace hB := hB.grown hg hB.size (fun j e => (h9.lt j e).1)
        try replace h15 := h15.kept hg (own_blk_ne h9 h15 (by decide)).symm
        clear hg h9 h11
        go_wp2
        refine hQ _ _ (fun _ => hB) ?_
        clear hQ Q
        obtain ⟨wc, rfl⟩ : ∃ W, W = wd := ⟨_, rfl⟩
        repeat (
          refine plan_read rfl (fun K hK => ?_)
          first
            | (refine plan_neg ?_ ?_
               focus (go_simp; done)
               go_simp
               refine hK _ ?_
               clear hK K)
            | (apply plan_pos
               focus (go_simp; done)
               focus (
                 intro W hW
                 (first | obtain ⟨d0, d1, d2, d3, d4⟩ := HCE.out W hW | skip)
                 go_simp
                 first
                   | done
                   | exact rfl)
               go_simp
               refine hK _ ?_
               clear hK K))
        refine plan_only rfl (fun Q hQ => ?_)
        have h12' : wc.ownsRow w3.heap.size 41 3 (.slice (some ⟨gg, 0, none⟩) (c + 1) cap') (es.take c ++ [mo]).length (flat (es.take c ++ [mo])) := by rw [HLEN.out, flat_snoc]; exact h12
        have HN12 := Lib.hid (edges_own h12' (by rw [HLEN.out]; omega)).2
        clear h12'
        go_wp2_with (go_at_call 22; (with_reducible refine (fit_any _ _ _ _ (es.take c ++ [mo]) _ HN12.out HV.out HWM.out).mono ?_); rintro e wd ⟨a5, cap5, rfl, h14, hb⟩; rw [HNN.out] at h14 ⊢)
        replace hB := hB.trans (hb.mono hB.size)
        try replace h15 := h15.below hb h15.lt
        refine hQ _ _ (fun _ => hB) ?_
        clear hQ Q HN12 h12 hb
        obtain ⟨wc, rfl⟩ : ∃ W, W = wd := ⟨_, rfl⟩
        refine plan_only rfl (fun Q hQ => ?_)
        obtain ⟨lM, y0, y1⟩ := h15.two
        have yf0 := h15.frozen 0
        have yf1 := h15.frozen 1
        go_wp2
        have h14' := (h14.off (i := 0) h15 (.int .i64 (n : Int))).off (i := 1) (h15.set 0 (.int .i64 (n : Int))) (.slice a5 (fitEs n (es.take c ++ [mo])).length cap5)
        replace h14 : NetAt ((wc.setCell ⟨M, 0, none⟩ (.int .i64 (n : Int))).setCell ⟨M, 1, none⟩ (.slice a5 (fitEs n (es.take c ++ [mo])).length cap5)).heap.size _ _ _ _ := h14'.more (by simp)
        replace h15 := (h15.set 0 (.int .i64 (n : Int))).set 1 (.slice a5 (fitEs n (es.take c ++ [mo])).length cap5)
        replace hB := (hB.setCell (p := ⟨M, 0, none⟩) hM (.int .i64 (n : Int))).setCell (p := ⟨M, 1, none⟩) hM (.slice a5 (fitEs n (es.take c ++ [mo])).length cap5)
        refine hQ _ _ (fun h => absurd h (by omega)) ?_
        clear hQ Q h14' y0 y1 yf0 yf1
        unfold Plan.wp
        go_wp2_with fail
        go_meet
        exact ⟨M, a5, cap5, rfl, hM, h15, h14, hB⟩
  case rest =>
    obtain ⟨M, a5, cap5, rfl, hM, bm, hE5, hB5⟩ := hcut
    obtain ⟨w5, rfl⟩ : ∃ w', w' = wc := ⟨_, rfl⟩
    have bM5 := bM.below hB5 bM.lt
    obtain ⟨lM, m0, m1⟩ := bM5.two
    obtain ⟨lm, p0, p1⟩ := bm.two
    have hlf := HG.out.len
    have HLF := Lib.hid hlf
    have hF : (fitEs n (es.take c ++ [mo])).length = min 40 (c + 1) := by
      rw [fitEs_length, List.length_append, List.length_take, HlE.out]; simp; omega
    have hFl : (fitEs n es).length = min 40 len := by rw [fitEs_length, HlE.out]
    have hcc := HC.out
    obtain ⟨F, hFe⟩ : ∃ F, fitEs n (es.take c ++ [mo]) = F := ⟨_, rfl⟩
    have HFE := Lib.hid hFe
    rw [hFe] at bm hE5 hF p1
    obtain ⟨L, hL⟩ : ∃ L, F.length = L := ⟨_, rfl⟩
    rw [hL] at bm hE5 hF p1
    have HL := Lib.hid hL
    obtain ⟨L0, hL0⟩ : ∃ L0, (fitEs n es).length = L0 := ⟨_, rfl⟩
    have HL0 := Lib.hid hL0
    rw [hL0] at hFl
    have hmk := make_ints L (by omega)
    have hmb := make_bools n (by omega)
    have hle : L0 ≤ L := by omega
    have hL40 : L ≤ 40 := by omega
    have hLf : 40 ≤ len → L ≤ L0 := fun h => by omega
    have hLn : ¬ 40 ≤ len → L = L0 + 1 := fun h => by omega
    have HLf := Lib.hid hLf
    have HLn := Lib.hid hLn
    clear hF hFl hLf hLn
    have hB53 : Below w.heap.size w w5 := HB3.out.trans (hB5.mono hB3s)
    have hB5s := hB5.size
    have HE5 := Lib.hid hE5
    have HB53 := Lib.hid hB53
    have hlf' : fl.length = L0 := by rw [hlf, hL0]
    have HLF' := Lib.hid hlf'
    have HF5 := Lib.hid ((HF3.out.below hB5).more hB5.size)
    have HN5 := Lib.hid ((HE3.out.below hB5).more hB5.size)
    simp only [hL0, hL] at *
    have hcopy : Hid (∀ W, Below w5.heap.size w5 W → ∀ j u, (ints fl)[j]? = some u → W.cell? ((⟨g, 0, none⟩ : Addr).add j) = some u) := Lib.hid fun W h => flow_cells (HF5.out.below h)
    have HNM : Hid ((ints fl).length = Nat.min L0 L) := Lib.hid (by rw [List.length_map, HLF'.out]; exact (Nat.min_eq_left hle).symm)
    clear hlf hFe hL hL0 hE5 hB53 hlf' hB3 hcc
    by_cases hfull : 40 ≤ len
    · have hq : L ≤ L0 := HLf.out hfull
      have hq' : (L : Int) ≤ (L0 : Int) := by omega
      go_wp2_with (
        with_reducible refine wpList_copy_splice rfl (.tmp 41) (.tmp 42) 25 25 rfl 3 Try.underlying25 (by kernel_rfl) _ _ _ _ _ _ rfl rfl w5.heap.size 0 (ints (List.replicate L 0)) 3 (ints_made w5 L) (ints fl) HNM.out (fun _ => ⟨rfl, _, rfl, hcopy.out _ ((Below.refl _ w5).alloc (Nat.le_refl _) _)⟩) (by have := HLF'.out; simp; omega) (ints_one fl) w5.heap.size w5 ((Below.refl _ w5).alloc (Nat.le_refl _) _) (Nat.le_refl _) ?_
        intro w6 HG6 hB6
        have bM6 := bM5.below hB6 bM5.lt
        have bm6 := bm.below hB6 bm.lt
        obtain ⟨lM6, m60, m61⟩ := bM6.two
        obtain ⟨lm6, p60, p61⟩ := bm6.two)
      go_ret
      exact ⟨rfl, HB53.out.trans (hB6.mono (by omega))⟩
    · have hq : ¬ L ≤ L0 := by have := HLn.out hfull; omega
      have hq' : ¬ (L : Int) ≤ (L0 : Int) := by omega
      obtain ⟨e, he⟩ : ∃ e, fitE n mo = e := ⟨_, rfl⟩
      have hFm : F = fitEs n es ++ [e] := by
        rw [← HFE.out, ← he, ← fitEs_more mo (by rw [HlE.out]; omega), HlE.out, HC.out]
      have hFN : fits n F (fl ++ [0]) = true := by
        rw [hFm]; refine fits_more HG.out ?_
        rw [← hFm, ← HFE.out]
        have := fit_right v (es.take c ++ [mo])
        rw [HNN.out] at this; exact this
      have hvx : vtx n 0 = true := by simp [vtx]; omega
      have hfl1 : (fl ++ [0]).length = L := by rw [List.length_append, HLF'.out, HLn.out hfull]; rfl
      obtain ⟨A, hA⟩ : ∃ A, reach n ((fitEs n es).zip fl) 0 = A := ⟨_, rfl⟩
      have hAd : Reached n ((fitEs n es).zip fl) 0 A := hA ▸ reach_is (by omega) (by omega) HG.out.ok
      obtain ⟨B, hB⟩ : ∃ B, reach n (F.zip (fl ++ [0])) 0 = B := ⟨_, rfl⟩
      have hBd : Reached n (F.zip (fl ++ [0])) 0 B := hB ▸ reach_is (by omega) (by omega) (fun p hp => (right_iff.1 (fits_iff.1 hFN).1).2.2.2 _ (List.of_mem_zip hp).1)
      have hAB : ∀ x, 0 ≤ x → has A x = true → has B x = true := reach_more HG.out hAd (by rw [← hFm]; exact hBd)
      have HAL : Hid (A.length = n) := Lib.hid (by rw [hAd.len]; simp)
      have HBL : Hid (B.length = n) := Lib.hid (by rw [hBd.len]; simp)
      have HA := Lib.hid hA
      have HBB := Lib.hid hB
      have HAB := Lib.hid hAB
      have HFN := Lib.hid hFN
      have HVX := Lib.hid hvx
      have HFL1 := Lib.hid hfl1
      have HNET := Lib.hid HG.out.net
      have HSP : Hid (splice (List.replicate L (Value.int .i64 0)) 0 (ints fl) = ints (fl ++ [0])) := Lib.hid (by rw [← splice_ints, HLF'.out, ← HLn.out hfull]; simp)
      clear he hFm hFN hvx hfl1 hA hAd hB hBd hAB
      go_wp2_with (first
        | (with_reducible refine wpList_copy_splice rfl (.tmp 41) (.tmp 42) 25 25 rfl 3 Try.underlying25 (by kernel_rfl) _ _ _ _ _ _ rfl rfl w5.heap.size 0 (ints (List.replicate L 0)) 3 (ints_made w5 L) (ints fl) HNM.out (fun _ => ⟨rfl, _, rfl, hcopy.out _ ((Below.refl _ w5).alloc (Nat.le_refl _) _)⟩) (by have := HLF'.out; simp; omega) (ints_one fl) w5.heap.size w5 ((Below.refl _ w5).alloc (Nat.le_refl _) _) (Nat.le_refl _) ?_
           intro w6 HG6 hB6
           have bM6 := bM5.below hB6 bM5.lt
           have bm6 := bm.below hB6 bm.lt
           obtain ⟨lM6, m60, m61⟩ := bM6.two
           obtain ⟨lm6, p60, p61⟩ := bm6.two
           have hI6 : Blk w6 w5.heap.size 3 (ints (fl ++ [0])).toArray := by
             have h := HG6.out
             rw [show splice (ints (List.replicate L 0)) 0 (ints fl) = ints (fl ++ [0]) by (first | exact HSP.out | (have h0 := HSP.out; simpa using h0))] at h
             exact h
           have HI6 := Lib.hid (flow_blk hI6 (by rw [HFL1.out]; omega))
           have hI6L : FlowAt w6.heap.size w6 (some ⟨w5.heap.size, 0, none⟩) L (fl ++ [0]) := by have := HI6.out; rw [HFL1.out] at this; exact this
           have HI6L := Lib.hid hI6L
           have HN6 := Lib.hid ((HN5.out.below hB6).more hB6.size)
           have HX6 := Lib.hid ((HE5.out.below hB6).more hB6.size)
           have HF6 := Lib.hid ((HF5.out.below hB6).more hB6.size)
           have HB6 := Lib.hid (HB53.out.trans (hB6.mono (by omega)))
           clear hI6 hI6L)
        | (go_at_call 12; (with_reducible refine (reach_yes n _ _ _ (fitEs n es) _ _ _ fl 0 _ HN6.out HF6.out HG.out.fits HVX.out).mono ?_); rintro e7 w7 ⟨g7, rfl, hg7, bA, hb7⟩
           rw [HA.out] at bA
           have bM7 := bM6.below hb7 bM6.lt
           have bm7 := bm6.below hb7 bm6.lt
           obtain ⟨lM7, m70, m71⟩ := bM7.two
           obtain ⟨lm7, p70, p71⟩ := bm7.two
           have hb7s := hb7.size)
        | (go_at_call 12; (with_reducible refine (reach_yes n _ _ _ F _ _ _ (fl ++ [0]) 0 _ ((HX6.out.below hb7).more hb7.size) ((HI6L.out.below hb7).more hb7.size) HFN.out HVX.out).mono ?_); rintro e8 w8 ⟨g8, rfl, hg8, bB, hb8⟩
           rw [HBB.out] at bB
           have bM8 := bM7.below hb8 bM7.lt
           have bA8 := bA.below hb8 bA.lt
           obtain ⟨lM8, m80, m81⟩ := bM8.two
           have hb8s := hb8.size))
      have HB8 := Lib.hid ((HB6.out.trans (hb7.mono HB6.out.size)).trans (hb8.mono (by have := HB6.out.size; omega)))
      have HN8 := Lib.hid ((net_on HN6.out (hb7.trans (hb8.mono hb7s))))
      have hz8 := HB8.out.size
      clear hb7 hb8 hB6 HG6 bM6 bm6 bm7 bM7 bA lM6 m60 m61 lm6 p60 p61 lM7 m70 m71 lm7 p70 p71 lM m0 m1 lm p0 p1 hmk
      go_loopw [15] (fun i wr => ∃ k : Nat, k ≤ n ∧ i = .int .i64 k ∧ Blk wr w8.heap.size 4 (boolsA (List.replicate k true ++ List.replicate (n - k) false)) ∧ Below w8.heap.size w8 wr) (fun i _ => n - (intOf i).toNat)
      case atStart => exact ⟨0, Nat.zero_le _, rfl, by simpa [boolsA_rep] using Blk.new w8 4 (Array.replicate n (.bool false)), (Below.refl _ _).alloc (Nat.le_refl _) _⟩
      case round =>
        obtain ⟨k, hk, rfl, bE, hbw⟩ := hrel
        obtain ⟨w9, rfl⟩ : ∃ w', w' = wr := ⟨_, rfl⟩
        clear lM8 m80 m81
        have bM9 := bM8.below hbw bM8.lt
        obtain ⟨lM9, m90, m91⟩ := bM9.two
        have hz9 := hbw.size
        by_cases hlt : k < n
        · have bA9 := bA8.below hbw bA8.lt
          have bB9 := bB.below hbw bB.lt
          have lA := bA9.lt
          have lB := bB9.lt
          have lE := bE.lt
          have ck := bA9.cell k
          rw [boolsA_at _ _ (by rw [HAL.out]; exact hlt)] at ck
          have dk := bB9.cell k
          rw [boolsA_at _ _ (by rw [HBL.out]; exact hlt)] at dk
          have ek := bE.cell k
          rw [boolsA_at _ _ (by simp; omega)] at ek
          have ef := bE.frozen k
          have hab := HAB.out (k : Int) (by omega)
          simp only [has, Int.toNat_natCast] at hab
          generalize A[k]?.getD false = x at ck hab
          generalize B[k]?.getD false = y at dk hab
          generalize (List.replicate k true ++ List.replicate (n - k) false)[k]?.getD false = z at ek
          have hki : (k : Int) < (n : Int) := by omega
          have HMO := Lib.hid (boolsA_more n k hlt)
          have hways : (x = false) ∨ (x = true ∧ y = true) := by
            rcases x with _ | _
            · exact .inl rfl
            · exact .inr ⟨rfl, hab rfl⟩
          clear hab bA9 bB9
          rcases hways with rfl | ⟨rfl, rfl⟩
          all_goals
            go_wp2
            go_roundw
            case rel => exact ⟨k + 1, by omega, by go_num, by rw [← HMO.out]; exact bE.set k _, hbw.setCell (p := ⟨w8.heap.size, k, none⟩) (Nat.le_refl _) _⟩
            case measure => simp [intOf]; omega
        · obtain rfl : k = n := by omega
          have hbE : Blk w9 w8.heap.size 4 (boolsA (List.replicate k true)) := by simpa using bE
          have HC1 := Lib.hid (cut_rep HNET.out true)
          have HC0 := Lib.hid (cut_rep HNET.out false)
          have HN9 := Lib.hid (net_on HN8.out hbw)
          have HS9 := Lib.hid (side_blk hbE (r := List.replicate k true) (n := k) (by simp) (by omega))
          have HB9 := Lib.hid (HB8.out.trans (hbw.mono hz8))
          have hcells : ∀ W, Below w9.heap.size w9 W → W.cell? ⟨w2.heap.size, 0, none⟩ = some (.int .i64 (k : Int)) ∧ W.cell? ⟨w2.heap.size, 1, none⟩ = some (.slice a2 L0 cap2) := fun W h => (bM9.below h bM9.lt).two.2
          have HCE := Lib.hid hcells
          clear hcells bE hbE
          go_wp2
          clear lM9 m90 m91
          have hB := below_drew (Below.refl w9.heap.size w9)
          refine region_mix (fun W => Below w9.heap.size w9 W) (9) (.reads [0, 1] (.only 2 (.reads [3, 4, 5, 6, 7] (.only 8 (.only 9 (.only 10 (.only 11 (.only 12 (.stop))))))))) (by kernel_rfl) (by kernel_rfl) (hB) ?_
          obtain ⟨wc, hwc⟩ : ∃ W, w9.drew = W := ⟨_, rfl⟩
          rw [hwc] at hB ⊢
          clear hwc
          repeat (
            refine plan_read rfl (fun K hK => ?_)
            first
              | (refine plan_neg ?_ ?_
                 focus (go_simp; done)
                 go_simp
                 refine hK _ ?_
                 clear hK K)
              | (apply plan_pos
                 focus (go_simp; done)
                 focus (
                   intro W hW
                   (first | obtain ⟨d0, d1⟩ := HCE.out W hW | skip)
                   go_simp
                   first
                     | done
                     | exact rfl)
                 go_simp
                 refine hK _ ?_
                 clear hK K))
          refine plan_only rfl (fun Q hQ => ?_)
          have hN0 := net_on HN9.out hB
          have hS0 := side_on HS9.out hB
          go_wp2_with (go_at_call 20; (with_reducible refine (cut_any _ _ _ _ (fitEs k es) _ _ _ (List.replicate k true) _ hN0 hS0).mono ?_); rw [HC1.out]; rintro e0 wd ⟨rfl, hb⟩)
          replace hB := hB.trans (hb.mono hB.size)
          refine hQ _ _ (fun _ => hB) ?_
          clear hQ Q hb hN0 hS0
          obtain ⟨wc, rfl⟩ : ∃ W, W = wd := ⟨_, rfl⟩
          repeat (
            refine plan_read rfl (fun K hK => ?_)
            first
              | (refine plan_neg ?_ ?_
                 focus (go_simp; done)
                 go_simp
                 refine hK _ ?_
                 clear hK K)
              | (apply plan_pos
                 focus (go_simp; done)
                 focus (
                   intro W hW
                   (first | obtain ⟨d0, d1⟩ := HCE.out W hW | skip)
                   go_simp
                   first
                     | done
                     | exact rfl)
                 go_simp
                 refine hK _ ?_
                 clear hK K))
          refine plan_only rfl (fun Q hQ => ?_)
          go_wp2
          have bZ := Blk.new wc 4 (Array.replicate k (.bool false))
          replace hB := hB.alloc hB.size (.cells (Array.replicate k (.bool false)) 4)
          refine hQ _ _ (fun _ => hB) ?_
          clear hQ Q
          generalize wc.alloc (.cells (Array.replicate k (.bool false)) 4) = wd at *
          generalize wc.heap.size = Z at *
          rw [← boolsA_rep] at bZ
          obtain ⟨wc, rfl⟩ : ∃ W, W = wd := ⟨_, rfl⟩
          refine plan_only rfl (fun Q hQ => ?_)
          have hN0 := net_on HN9.out hB
          have hS0 := side_blk bZ (r := List.replicate k false) (n := k) (by simp) (by omega)
          go_wp2_with (go_at_call 20; (with_reducible refine (cut_any _ _ _ _ (fitEs k es) _ _ _ (List.replicate k false) _ hN0 hS0).mono ?_); rw [HC0.out]; rintro e0 wd ⟨rfl, hb⟩)
          replace hB := hB.trans (hb.mono hB.size)
          refine hQ _ _ (fun h => absurd h (by omega)) ?_
          clear hQ Q hb hN0 hS0 bZ
          obtain ⟨wc, rfl⟩ : ∃ W, W = wd := ⟨_, rfl⟩
          refine plan_only rfl (fun Q hQ => ?_)
          go_wp2
          refine hQ _ _ (fun h => absurd h (by omega)) ?_
          clear hQ Q
          refine plan_only rfl (fun Q hQ => ?_)
          go_wp2
          refine hQ _ _ (fun h => absurd h (by omega)) ?_
          clear hQ Q
          refine plan_only rfl (fun Q hQ => ?_)
          go_wp2
          refine hQ _ _ (fun h => absurd h (by omega)) ?_
          clear hQ Q
          unfold Plan.wp
          go_wp2
          go_ret
          exact ⟨rfl, HB9.out.trans (hB.mono (by omega))⟩
theorem own : ownKnob Try.prog.godebug = none := by kernel_rfl
theorem laidOut : laidOutB Try.prog = true := by kernel_rfl

set_option maxRecDepth 100000 in
theorem lifted (os : Os) (started : os.Started) (H : Type) (enc : TypeId × Value → H) :
    ReturnsInHanded {} Try.checked os 9 .any (Rows.graphMoreSpec.pre6 enc Try.prog Try.f9 Rows.graphMoreRow.domain false) (Rows.graphMoreSpec.post enc Try.prog Try.f9 false true false false) := by
  refine returnsInHanded_of_change_sized (C := Try.checked) own started (by kernel_rfl) Try.func9
    (ChangeSpec.witness6 (enc := enc) (C := Try.checked) false ⟨#[], #[.agg #[.int .i64 0, .slice none 0 0], .slice none 0 0, .agg #[.int .i64 0, .int .i64 0, .int .i64 0]], []⟩ 8 (by kernel_rfl) (by kernel_rfl) (by kernel_rfl) (by kernel_rfl)) ?_
  intro W base args ds gs before hval0 hW _ hsz0 _
  have hsz : (DataW.weightsEach Try.prog (Try.f9.params.toList ++ Rows.graphMoreSpec.plain.varTypes Try.prog) (ds ++ gs)).all (· ≤ reachBytes) = true := hsz0
  have hval : ∀ (j : Nat) t v, Try.f9.params[j]? = some t → args[j]? = some v → Value.okWide Try.prog W .any base t v := hval0
  have hW' := hW
  obtain ⟨p, q, hA0, hV, rfl, hfz, hnd⟩ := hW
  have hA : DataW.TrodAll enc Try.prog W 0 (fun _ => true) true Try.f9.params.toList args.toList ds p := hA0
  rw [Try.params9] at hA hval hsz
  obtain ⟨v0, vs0, d0, ds0, p0, q0, hargs, rfl, rfl, h0, r0⟩ := trodAll_cons hA
  obtain ⟨v1, vs1, d1, ds1, p1, q1, rfl, rfl, rfl, h1, r1⟩ := trodAll_cons r0
  obtain ⟨v2, vs2, d2, ds2, p2, q2, rfl, rfl, rfl, h2, r2⟩ := trodAll_cons r1
  obtain ⟨rfl, rfl, rfl⟩ := trodAll_nil r2
  obtain rfl : args = #[v0, v1, v2] := by cases args; simp_all
  obtain ⟨rfl, rfl⟩ := trodVars_none hV
  have k0 := h0
  have lt0 : ∀ x ∈ p0, x.block < W.heap.size := by obtain ⟨m, hm⟩ := k0; exact DataW.trod_lt m _ _ _ hm
  have k1 := h1
  have lt1 : ∀ x ∈ p1, x.block < W.heap.size := by obtain ⟨m, hm⟩ := k1; exact DataW.trod_lt m _ _ _ hm
  have k2 := h2
  have lt2 : ∀ x ∈ p2, x.block < W.heap.size := by obtain ⟨m, hm⟩ := k2; exact DataW.trod_lt m _ _ _ hm
  obtain ⟨n0, a0, len0, cap0, es0, rfl, b0⟩ := net_of (hval 0 24 v0 rfl rfl) k0 (weights_at hsz (j := 0) (t := 24) rfl rfl)
  have m0 := cap_of (hval 0 24 _ rfl rfl) k0
  obtain ⟨a1, len1, cap1, rfl⟩ := okWide_slice Try.underlying25 (hval 1 25 v1 rfl rfl)
  obtain ⟨z1, b1⟩ := ints_of k1 (weights_at hsz (j := 1) (t := 25) rfl rfl)
  obtain ⟨e2, rfl, b2⟩ := edge_of (hval 2 41 v2 rfl rfl) k2
  clear hA0 hval0 hsz0 hsz
  refine (walk n0 a0 len0 cap0 es0 a1 len1 cap1 z1 e2 W ⟨b0, m0⟩ b1 b2).mono fun e W' ⟨he, bel⟩ => ?_
  subst he
  exact ⟨_, rfl, _, _, _, [], _, [], hW', trodAll_mk1 (shut_bool Try.underlying4 _), (trodAll_cons_mk (Below.trod laidOut (by kernel_rfl) (of_decide_eq_true (by kernel_rfl)) k0 bel lt0) (trodAll_cons_mk (Below.trod laidOut (by kernel_rfl) (of_decide_eq_true (by kernel_rfl)) k1 bel lt1) (trodAll_cons_mk (Below.trod laidOut (by kernel_rfl) (of_decide_eq_true (by kernel_rfl)) k2 bel lt2) trodAll_mk0))), rfl, bel.frame _, fun h => by cases h⟩

theorem over : Rows.graphMoreRow.holds Try.pinned (OpenSpec.ofChange Rows.graphMoreSpec) :=
  OpenClaim.holds_of_wide 9 Try.f9 rfl rfl rfl rfl rfl rfl rfl ⟨rfl, rfl, rfl, rfl, rfl⟩ rfl rfl rfl rfl rfl (by kernel_rfl) Try.func9 (by kernel_rfl)
    (of_decide_eq_true (by kernel_rfl)) (by unfold Func.isWrapper; first | (rw [if_pos (by decide +kernel)]; kernel_rfl) | (rw [if_neg (by decide +kernel)]; exact ⟨rfl, rfl⟩))
    (fun os started H enc _ => lifted os started H enc)

theorem proved : Rows.GraphMoreSaid := over
end Go.Proofs.Ythaioeebnpjajaa.lawMore
