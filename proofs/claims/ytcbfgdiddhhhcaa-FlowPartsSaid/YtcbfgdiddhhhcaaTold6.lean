/-
  What FlowTells says, for whatever network and flow lie in memory.
-/
import Derived.Test.YtcbfgdiddhhhcaaAwake6
namespace Go.Proofs.Ytcbfgdiddhhhcaa
open Go.RowKit Gm

set_option maxRecDepth 100000 in
set_option maxHeartbeats 4000000 in
theorem tells6_any (v : Int) (a : Option Addr) (len cap : Nat) (es : List E) (ra : Option Addr) (rlen rcap : Nat) (fl : List Int) (s t most : Int) (w : World) (hE : NetAt w.heap.size w a len es) (hR : FlowAt w.heap.size w ra rlen fl) (hmI : I64 most) :
    Calls Try.prog 3 #[netV v a len cap, .slice ra rlen rcap, .int .i64 s, .int .i64 t, .int .i64 most] w fun e w' => e = .returned (.bool true) ∧ Below w.heap.size w w' := by
  obtain ⟨W0, hW0⟩ : ∃ W0, w.alloc (.cells #[.int .i64 v, .slice a len cap] 24) = W0 := ⟨_, rfl⟩
  have hB0 : Below w.heap.size w W0 := by rw [← hW0]; exact (Below.refl _ w).alloc (Nat.le_refl _) _
  have bN : Blk W0 w.heap.size 24 #[.int .i64 v, .slice a len cap] := by rw [← hW0]; exact Blk.new w _ _
  have HW0 := Lib.hid hW0
  have hz0 := hB0.size
  have hle := hE.2.1
  have hlr := hR.2.1
  have HlE := Lib.hid hE.1
  have HlR := Lib.hid hR.1
  have HE := Lib.hid hE
  have HR := Lib.hid hR
  have HMI := Lib.hid hmI
  clear hW0 hE hR hmI
  by_cases h1 : len ≤ 300
  · by_cases h2 : rlen ≤ 300
    · have g1 : ¬ 300 < len := by omega
      have g2 : ¬ 300 < rlen := by omega
      obtain ⟨P, hP⟩ : ∃ P, pushF v es fl s t most = P := ⟨_, rfl⟩
      obtain ⟨M, hM⟩ : ∃ M, maxF v es s t = M := ⟨_, rfl⟩
      have HP := Lib.hid hP
      have HM := Lib.hid hM
      obtain ⟨p0, p1, p2⟩ := P
      obtain ⟨m0, m1, m2⟩ := M
      clear hP hM
      go_enter Try.func3, Try.ntmps3
      go_wp2_with (first
        | (go_at_call 11; rw [HW0.out]; (with_reducible refine (awake6_any _).mono ?_); rintro e w1 ⟨rfl, hb1⟩
           have bN1 := bN.below hb1 bN.lt
           have hB1 : Below w.heap.size w w1 := hB0.trans (hb1.mono hz0)
           obtain ⟨lN1, n0, n1⟩ := bN1.two
           have hz1 := hB1.size
           have HR1 := Lib.hid ((HR.out.below hB1).more hz1)
           clear hb1)
        | (obtain ⟨v2, w2, hr2, h9, hg2⟩ := append_nil_ints (cap := rcap) HR1.out h2 25 w.heap.size hz1
           refine wpList_append_run (by rfl) (.const (.slice none 0 0)) (.tmp 36) 25 25 (by rfl) (by rfl) (by rfl) hr2 ?_
           obtain ⟨oa, oc, rfl⟩ := own_form h9
           have bN2 := bN1.kept hg2 (by simp)
           have hB2 := hB1.grown hg2 hz1 (fun j e => by cases e)
           obtain ⟨lN2, n20, n21⟩ := bN2.two
           have hz2 := hB2.size
           have HO2 : Hid (FlowAt w2.heap.size w2 oa rlen fl) := Lib.hid (by
             have h9' : w2.ownsRow w.heap.size 3 1 (.slice oa rlen oc) fl.length (ints fl) := by rw [HlR.out]; exact h9
             exact (ints_own h9' (by rw [HlR.out]; exact hlr)).2)
           clear h9 hr2 hg2)
        | (go_at_call 12; (with_reducible refine (push_any _ _ _ _ es _ _ _ fl s t most _ ((HE.out.below hB2).more hz2) HO2.out HMI.out).mono ?_); rw [HP.out]; rintro e w3 ⟨a3, l3, c3, he, hF3, hb3⟩
           dsimp only at he hF3
           subst he
           have bN3 := bN2.below hb3 bN2.lt
           have hB3 := hB2.trans (hb3.mono hz2)
           obtain ⟨lN3, n30, n31⟩ := bN3.two
           have hz3 := hB3.size
           have HA3 := Lib.hid hF3
           have HO3 := Lib.hid ((HO2.out.below hb3).more hb3.size)
           clear hF3 hb3)
        | (go_at_call 13; (with_reducible refine (qpush_any _ _ _ _ es _ _ _ fl s t most _ ((HE.out.below hB3).more hz3) ((HR.out.below hB3).more hz3) HMI.out).mono ?_); rw [HP.out]; rintro e w4 ⟨a4, l4, c4, he, hF4, hb4⟩
           dsimp only at he hF4
           subst he
           have bN4 := bN3.below hb4 bN3.lt
           have hB4 := hB3.trans (hb4.mono hz3)
           obtain ⟨lN4, n40, n41⟩ := bN4.two
           have hz4 := hB4.size
           have HB4 := Lib.hid hF4
           have HA4 := Lib.hid (flow_on HA3.out hb4)
           have HO4 := Lib.hid (flow_on HO3.out hb4)
           clear hF4 hb4)
        | (go_at_call 14; (with_reducible refine (max_any _ _ _ _ es s t _ ((HE.out.below hB4).more hz4)).mono ?_); rw [HM.out]; rintro e w5 ⟨a5, l5, c5, he, hF5, hb5⟩
           dsimp only at he hF5
           subst he
           have bN5 := bN4.below hb5 bN4.lt
           have hB5 := hB4.trans (hb5.mono hz4)
           obtain ⟨lN5, n50, n51⟩ := bN5.two
           have hz5 := hB5.size
           have HC5 := Lib.hid hF5
           have HA5 := Lib.hid (flow_on HA4.out hb5)
           have HB5 := Lib.hid (flow_on HB4.out hb5)
           have HO5 := Lib.hid (flow_on HO4.out hb5)
           clear hF5 hb5)
        | (go_at_call 15; (with_reducible refine (qmax_any _ _ _ _ es s t _ ((HE.out.below hB5).more hz5)).mono ?_); rw [HM.out]; rintro e w6 ⟨a6, l6, c6, he, hF6, hb6⟩
           dsimp only at he hF6
           subst he
           have hB6 := hB5.trans (hb6.mono hz5)
           have hz6 := hB6.size
           have HD6 := Lib.hid hF6
           have HA6 := Lib.hid (flow_on HA5.out hb6)
           have HB6 := Lib.hid (flow_on HB5.out hb6)
           have HC6 := Lib.hid (flow_on HC5.out hb6)
           have HO6 := Lib.hid (flow_on HO5.out hb6)
           have HR6 := Lib.hid ((HR.out.below hB6).more hz6)
           clear hF6 hb6)
        | (go_at_call 16; (with_reducible refine (intsame_yes _ _ _ _ _ _ p0 _ HA6.out HB6.out).mono ?_); rintro e w7 ⟨rfl, hd7⟩
           have HC7 := Lib.hid (flow_on HC6.out (hd7.low _))
           have HD7 := Lib.hid (flow_on HD6.out (hd7.low _))
           have HO7 := Lib.hid (flow_on HO6.out (hd7.low _))
           have HR7 := Lib.hid (flow_on HR6.out (hd7.low _))
           have hB7 := hB6.trans (hd7.low _)
           clear hd7)
        | (go_at_call 16; (with_reducible refine (intsame_yes _ _ _ _ _ _ m0 _ HC7.out HD7.out).mono ?_); rintro e w8 ⟨rfl, hd8⟩
           have HO8 := Lib.hid (flow_on HO7.out (hd8.low _))
           have HR8 := Lib.hid (flow_on HR7.out (hd8.low _))
           have hB8 := hB7.trans (hd8.low _)
           clear hd8)
        | (go_at_call 16; (with_reducible refine (intsame_yes _ _ _ _ _ _ fl _ HO8.out HR8.out).mono ?_); rintro e w9 ⟨rfl, hd9⟩))
      go_ret
      exact ⟨rfl, hB8.trans (hd9.low _)⟩
    · have g1 : ¬ 300 < len := by omega
      have g2 : 300 < rlen := by omega
      go_enter Try.func3, Try.ntmps3
      go_wp2_with (go_at_call 11; rw [HW0.out]; (with_reducible refine (awake6_any _).mono ?_); rintro e w1 ⟨rfl, hb1⟩
                   have bN1 := bN.below hb1 bN.lt
                   have hB1 : Below w.heap.size w w1 := hB0.trans (hb1.mono hz0)
                   obtain ⟨lN1, n0, n1⟩ := bN1.two)
      go_ret
      exact ⟨rfl, hB1⟩
  · have g1 : 300 < len := by omega
    go_enter Try.func3, Try.ntmps3
    go_wp2_with (go_at_call 11; rw [HW0.out]; (with_reducible refine (awake6_any _).mono ?_); rintro e w1 ⟨rfl, hb1⟩
                 have bN1 := bN.below hb1 bN.lt
                 have hB1 : Below w.heap.size w w1 := hB0.trans (hb1.mono hz0)
                 obtain ⟨lN1, n0, n1⟩ := bN1.two)
    go_ret
    exact ⟨rfl, hB1⟩
end Go.Proofs.Ytcbfgdiddhhhcaa
