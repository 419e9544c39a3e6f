/-
  The statement FlowAdds is proved for every network, every list of numbers and every number: Push answers a good flow that has by so much more as it says; less than was asked just if there is no more. No condition.
-/
import Derived.Test.YtcbfgdiddhhhcaaTold6
import Derived.Test.YtcbfgdiddhhhcaaMost
import Derived.Test.YtcbfgdiddhhhcaaRef3
import Derived.Test.YtcbfgdiddhhhcaaRef4
import Derived.Test.YtcbfgdiddhhhcaaRows
namespace Go.Proofs.Ytcbfgdiddhhhcaa.lawAdds
open Go.ChangeShapes Go.WideShapes Go.ChangeAt Go.RowKit Gm

set_option maxRecDepth 100000 in
set_option maxHeartbeats 4000000 in
theorem walk (v : Int) (a : Option Addr) (len cap : Nat) (es : List E) (ra : Option Addr) (rlen rcap : Nat) (raw : List Int) (mo : Int) (w : World) (h0 : I64 v ∧ NetAt w.heap.size w a len es ∧ Wide es) (h1 : FlowAt w.heap.size w ra rlen raw ∧ ∀ x ∈ raw, I64 x) (ho : I64 mo) :
    Calls Try.prog 6 #[netV v a len cap, .slice ra rlen rcap, .int .i64 mo] w fun e w' => e = .returned (.bool true) ∧ Below w.heap.size w w' := by
  obtain ⟨hv, hE, hW⟩ := h0
  obtain ⟨hR, hraw⟩ := h1
  obtain ⟨W0, hW0⟩ : ∃ W0, w.alloc (.cells #[.int .i64 v, .slice a len cap] 24) = W0 := ⟨_, rfl⟩
  have hB0 : Below w.heap.size w W0 := by rw [← hW0]; exact (Below.refl _ w).alloc (Nat.le_refl _) _
  have bN : Blk W0 w.heap.size 24 #[.int .i64 v, .slice a len cap] := by rw [← hW0]; exact Blk.new w _ _
  have HW0 := Lib.hid hW0
  have HV := Lib.hid hv
  have HE := Lib.hid hE
  have HWI := Lib.hid hW
  have HR := Lib.hid hR
  have HRAW := Lib.hid hraw
  have hN := fitN_bd v
  obtain ⟨n, hn⟩ : ∃ n : Nat, fitN v = n := ⟨(fitN v).toNat, by omega⟩
  rw [hn] at hN
  have HRT := Lib.hid (fit_right v es)
  rw [hn] at HRT
  have HNN := Lib.hid hn
  have HO := Lib.hid ho
  have hq1 := pk_bd mo 40 (by omega)
  obtain ⟨q1, hq1e⟩ : ∃ q, pk mo 40 = q := ⟨_, rfl⟩
  rw [hq1e] at hq1
  have HQ1 := Lib.hid hq1e
  obtain ⟨hq10, hq11⟩ := hq1
  have hz0 := hB0.size
  clear hW0 hv hE hW hR hraw hn ho hq1e
  go_enter Try.func6, Try.ntmps6
  go_wp2_with (first
    | (go_at_call 11; rw [HW0.out]; (with_reducible refine (awake6_any _).mono ?_); rintro e w1 ⟨rfl, hb1⟩
       have bN1 := bN.below hb1 bN.lt
       have hB1 : Below w.heap.size w w1 := hB0.trans (hb1.mono hz0)
       obtain ⟨lN1, n0, n1⟩ := bN1.two)
    | (go_at_call 17; (with_reducible refine (fit_any _ _ _ _ es _ ((HE.out.below hB1).more hB1.size) HV.out HWI.out).mono ?_); rintro e w2 ⟨a2, cap2, rfl, hE2, hb2⟩
       rw [HNN.out] at hE2 ⊢
       have hB2 : Below w.heap.size w w2 := hB1.trans (hb2.mono hB1.size)
       have lN2 : w2.heap.size < w2.heap.size + 1 := by omega)
    | (go_at_call 18; (with_reducible refine (flow_any n _ _ _ (fitEs n es) _ _ _ raw _ (by simpa using (hE2.below ((Below.refl _ w2).alloc (Nat.le_refl _) _)).more (Nat.le_succ _)) (by simpa using (HR.out.below (hB2.alloc hB2.size _)).more (by have := hB2.size; omega)) HRAW.out HRT.out).mono ?_); rintro e w3 ⟨g, fl, rfl, hG, hF3, hb3⟩
       have bM := (Blk.new w2 24 #[.int .i64 (n : Int), .slice a2 (fitEs n es).length cap2]).below hb3 (by simp)
       have hEa := (hE2.below ((Below.refl _ w2).alloc (Nat.le_refl _) (.cells #[.int .i64 (n : Int), .slice a2 (fitEs n es).length cap2] 24))).more (Nat.le_succ _)
       have hE3 : NetAt w3.heap.size w3 a2 (fitEs n es).length (fitEs n es) := by
         have h : NetAt (w2.heap.size + 1) w3 a2 (fitEs n es).length (fitEs n es) := hEa.below (by simpa using hb3)
         exact h.more (by have := hb3.size; simpa using this)
       have hB3 : Below w.heap.size w w3 := (hB2.alloc hB2.size _).trans (hb3.mono (by have := hB2.size; simp; omega))
       have hB3s := hB3.size
       obtain ⟨lM, m0, m1⟩ := bM.two
       have hb3s := hb3.size
       have HG := Lib.hid hG
       have HE3 := Lib.hid hE3
       have HF3 := Lib.hid hF3
       obtain ⟨R1, hR1, hr1⟩ := pushF_good hG.gen hq10
       have HR1 := Lib.hid hR1
       obtain ⟨A, x⟩ := R1
       dsimp only at *
       have k1 := hr1.more
       have b1 := hr1.lo
       have b2 := hr1.hi
       dsimp only at *
       have hgb := hr1.good.bound
       have hfb := hG.gen.bound
       obtain ⟨ga, hga⟩ : ∃ ga, gain ((fitEs n es).zip A) 0 = ga := ⟨_, rfl⟩
       obtain ⟨gf, hgf⟩ : ∃ gf, gain ((fitEs n es).zip fl) 0 = gf := ⟨_, rfl⟩
       rw [hga, hgf] at k1
       rw [hga] at hgb
       rw [hgf] at hfb
       have HGA := Lib.hid (goodG_iff.2 hr1.good)
       have HFI := Lib.hid hr1.good.fits
       have HVA : Hid (value n (fitEs n es) A 0 = ga) := Lib.hid (by rw [hr1.good.value, hga])
       have HVF : Hid (value n (fitEs n es) fl 0 = gf) := Lib.hid (by rw [hG.gen.value, hgf])
       obtain ⟨R, hRe⟩ : ∃ R, reach n ((fitEs n es).zip A) 0 = R := ⟨_, rfl⟩
       have HRE := Lib.hid hRe
       have hRd := reach_is (n := n) (z := (fitEs n es).zip A) (s := 0) (by omega) (by omega) hr1.good.ok
       rw [hRe] at hRd
       have hRL : R.length = n := by rw [← hRe, reach_length]; omega
       have HRL := Lib.hid hRL
       obtain ⟨r1, hr1e⟩ : ∃ b, R[1]?.getD false = b := ⟨_, rfl⟩
       have HR1e := Lib.hid hr1e
       have hfin : x = q1 ∨ (x ≠ q1 ∧ r1 = false ∧ cut n (fitEs n es) R = ga) := by
         by_cases hx : x = q1
         · exact .inl hx
         · refine .inr ⟨hx, ?_⟩
           have hno := hr1.full.resolve_left hx
           have hb := reached_one hRd (bfs_reached (right_iff.1 hr1.good.net).2.2.2 hr1.good.len hr1.good.s0 hr1.good.s1)
           rw [hb] at hr1e ⊢
           refine ⟨hr1e.symm.trans hno, ?_⟩
           rw [(most_of hr1.good hno).2, hga]
       have HFIN := Lib.hid hfin
       have hwr : IntKind.i64.wrap (gf + x) = gf + x := IntWalk.i64_in _ (by omega)
       have hne : (ga != gf + x) = false := by rw [bne_eq_false_iff_eq]; omega
       clear hE2 hEa hE3 hF3 hG hb1 hb2 hb3 bN bN1 lN1 n0 n1 hB0 hB1 hB2 lN2 hz0 hga hgf hR1 hr1 hRe hRd hRL hr1e hfin k1)
    | (go_at_call 20; (with_reducible refine (pick6_any _ _ _ HO.out (by omega) (by omega)).mono ?_); rw [HQ1.out]; rintro e wp ⟨rfl, rfl⟩)
    | (go_at_call 12; (with_reducible refine (push_any _ _ _ _ (fitEs n es) _ _ _ fl 0 1 q1 _ HE3.out HF3.out (by unfold I64; omega)).mono ?_); rw [HR1.out]; rintro e w4 ⟨a4, l4, c4, he, hF4, hb4⟩
       dsimp only at he hF4
       subst he
       have bM4 := bM.below hb4 bM.lt
       obtain ⟨lM4, m40, m41⟩ := bM4.two
       have HA4 := Lib.hid hF4
       have HE4 := Lib.hid (net_on HE3.out hb4)
       have HF4 := Lib.hid (flow_on HF3.out hb4)
       have hB4 := hB3.trans (hb4.mono hB3s)
       have hz4 := hB4.size
       clear hF4 hb4))
  have hcells : ∀ W, Below w4.heap.size w4 W → W.cell? ⟨w2.heap.size, 0, none⟩ = some (.int .i64 (n : Int)) ∧ W.cell? ⟨w2.heap.size, 1, none⟩ = some (.slice a2 (fitEs n es).length cap2) := fun W h => (bM4.below h bM4.lt).two.2
  have HCE := Lib.hid hcells
  have hbd := (Below.refl w4.heap.size w4).drew
  have t1 : decide (x < 0) = false := by simp; omega
  have t2 : decide (q1 < x) = false := by simp; omega
  clear hcells m0 m1 lM m40 m41
  (refine region_calm (fun W => Below w4.heap.size w4 W) (by kernel_rfl) (by kernel_rfl) (hbd) ?_
   repeat (
     refine wpQuiet_step (fun K hK => ?_)
     first
       | (refine calm_neg ?_ ?_
          focus (go_simp; done)
          go_simp
          refine hK _ ?_
          clear hK K)
       | (apply calm_pos
          focus (go_simp; done)
          focus (
            intro W hW
            (obtain ⟨d0, d1⟩ := HCE.out W hW)
            go_simp
            first
              | done
              | exact rfl
              | (first
                  | (go_at_call 19; (with_reducible refine (qgood_any _ _ _ _ (fitEs n es) _ _ _ A 0 1 _ (net_on HE4.out hW) (flow_on HA4.out hW)).mono ?_); rw [HGA.out]; rintro e w7 ⟨rfl, hb7⟩; exact ⟨rfl, on_below hW hb7⟩)
                  | (go_at_call 21; (with_reducible refine (qvalue_any _ _ _ _ (fitEs n es) _ _ _ A 0 _ (net_on HE4.out hW) (flow_on HA4.out hW)).mono ?_); rw [HVA.out]; rintro e w7 ⟨rfl, hb7⟩; exact ⟨rfl, on_below hW hb7⟩)
                  | (go_at_call 21; (with_reducible refine (qvalue_any _ _ _ _ (fitEs n es) _ _ _ fl 0 _ (net_on HE4.out hW) (flow_on HF4.out hW)).mono ?_); rw [HVF.out]; rintro e w7 ⟨rfl, hb7⟩; exact ⟨rfl, on_below hW hb7⟩)))
          go_simp
          refine hK _ ?_
          clear hK K))
   refine wpQuiet_nil ?_)
  intro w5 hb5
  have bM5 := bM4.below hb5 bM4.lt
  obtain ⟨lM5, m50, m51⟩ := bM5.two
  have HA5 := Lib.hid (flow_on HA4.out hb5)
  have HE5 := Lib.hid (net_on HE4.out hb5)
  have hB5 := hB4.trans (hb5.mono hz4)
  have hz5 := hB5.size
  go_wp2_with (go_at_call 22; (with_reducible refine (qreach_yes n _ _ _ (fitEs n es) _ _ _ A 0 _ HE5.out HA5.out HFI.out (by simp [vtx]; omega)).mono ?_); rintro e w6 ⟨gr, rfl, hgr, bR, hb6⟩; rw [HRE.out] at bR)
  have bM6 := bM5.below hb6 bM5.lt
  have c1 := bR.cell 1
  rw [boolsA_at _ _ (by rw [HRL.out]; omega), HR1e.out] at c1
  have HE6 := Lib.hid (net_on HE5.out hb6)
  have HA6 := Lib.hid (flow_on HA5.out hb6)
  have HS6 := Lib.hid (side_blk bR HRL.out (by omega))
  have hcells : ∀ W, Below w6.heap.size w6 W → W.cell? ⟨w2.heap.size, 0, none⟩ = some (.int .i64 (n : Int)) ∧ W.cell? ⟨w2.heap.size, 1, none⟩ = some (.slice a2 (fitEs n es).length cap2) ∧ W.cell? ⟨gr, 1, none⟩ = some (.bool r1) := fun W h =>
    ⟨(bM6.below h bM6.lt).two.2.1, (bM6.below h bM6.lt).two.2.2, by rw [(bR.below h bR.lt).cell 1, ← bR.cell 1]; exact c1⟩
  have HCE6 := Lib.hid hcells
  have hB6 := hB5.trans (hb6.mono hz5)
  have hz6 := hB6.size
  have hn1 : (1 : Int) < (n : Int) := by omega
  clear hcells bR bM4 bM5 m50 m51 lM5 t1 t2 hne hwr hbd c1
  rcases HFIN.out with hx | ⟨hx, rfl, hcut⟩
  · have t3 : (x == q1) = true := by simp [hx]
    obtain ⟨d0, d1, d2⟩ := HCE6.out w6 (Below.refl _ _)
    clear hx
    go_quiet (fail)
    go_wp2
    go_ret
    exact ⟨rfl, hB6.trans ((below_drewN (Below.refl _ _) _).mono hz6)⟩
  · have t3 : (x == q1) = false := by simp [hx]
    have HC := Lib.hid hcut
    have hbd := (Below.refl w6.heap.size w6).drew
    clear hx hcut
    (refine region_calm (fun W => Below w6.heap.size w6 W) (by kernel_rfl) (by kernel_rfl) (hbd) ?_
     repeat (
       refine wpQuiet_step (fun K hK => ?_)
       first
         | (refine calm_neg ?_ ?_
            focus (go_simp; done)
            go_simp
            refine hK _ ?_
            clear hK K)
         | (apply calm_pos
            focus (go_simp; done)
            focus (
              intro W hW
              (obtain ⟨d0, d1, d2⟩ := HCE6.out W hW)
              go_simp
              first
                | done
                | exact rfl
                | (first
                    | (go_at_call 23; (with_reducible refine (qcut_any _ _ _ _ (fitEs n es) _ _ _ R _ (net_on HE6.out hW) (side_on HS6.out hW)).mono ?_); rw [HC.out]; rintro e w7 ⟨rfl, hb7⟩; exact ⟨rfl, on_below hW hb7⟩)
                    | (go_at_call 21; (with_reducible refine (qvalue_any _ _ _ _ (fitEs n es) _ _ _ A 0 _ (net_on HE6.out hW) (flow_on HA6.out hW)).mono ?_); rw [HVA.out]; rintro e w7 ⟨rfl, hb7⟩; exact ⟨rfl, on_below hW hb7⟩)))
            go_simp
            refine hK _ ?_
            clear hK K))
     refine wpQuiet_nil ?_)
    intro w7 hb7
    go_wp2
    go_ret
    exact ⟨rfl, hB6.trans (hb7.mono hz6)⟩

theorem own : ownKnob Try.prog.godebug = none := by kernel_rfl
theorem laidOut : laidOutB Try.prog = true := by kernel_rfl

set_option maxRecDepth 100000 in
theorem lifted (os : Os) (started : os.Started) (H : Type) (enc : TypeId × Value → H) :
    ReturnsInHanded {} Try.checked os 6 .any (Rows.flowAddsSpec.pre6 enc Try.prog Try.f6 Rows.flowAddsRow.domain false) (Rows.flowAddsSpec.post enc Try.prog Try.f6 false true false false) := by
  refine returnsInHanded_of_change_sized (C := Try.checked) own started (by kernel_rfl) Try.func6
    (ChangeSpec.witness6 (enc := enc) (C := Try.checked) false ⟨#[], #[.agg #[.int .i64 0, .slice none 0 0], .slice none 0 0, .int .i64 0], []⟩ 8 (by kernel_rfl) (by kernel_rfl) (by kernel_rfl) (by kernel_rfl)) ?_
  intro W base args ds gs before hval0 hW _ hsz0 _
  have hsz : (DataW.weightsEach Try.prog (Try.f6.params.toList ++ Rows.flowAddsSpec.plain.varTypes Try.prog) (ds ++ gs)).all (· ≤ reachBytes) = true := hsz0
  have hval : ∀ (j : Nat) t v, Try.f6.params[j]? = some t → args[j]? = some v → Value.okWide Try.prog W .any base t v := hval0
  have hW' := hW
  obtain ⟨p, q, hA0, hV, rfl, hfz, hnd⟩ := hW
  have hA : DataW.TrodAll enc Try.prog W 0 (fun _ => true) true Try.f6.params.toList args.toList ds p := hA0
  rw [Try.params6] at hA hval hsz
  obtain ⟨v0, vs0, d0, ds0, p0, q0, hargs, rfl, rfl, h0, r0⟩ := trodAll_cons hA
  obtain ⟨v1, vs1, d1, ds1, p1, q1, rfl, rfl, rfl, h1, r1⟩ := trodAll_cons r0
  obtain ⟨v2, vs2, d2, ds2, p2, q2, rfl, rfl, rfl, h2, r2⟩ := trodAll_cons r1
  obtain ⟨rfl, rfl, rfl⟩ := trodAll_nil r2
  obtain rfl : args = #[v0, v1, v2] := by cases args; simp_all
  obtain ⟨rfl, rfl⟩ := trodVars_none hV
  have k0 := h0
  have lt0 : ∀ x ∈ p0, x.block < W.heap.size := by obtain ⟨m, hm⟩ := k0; exact DataW.trod_lt m _ _ _ hm
  have k1 := h1
  have lt1 : ∀ x ∈ p1, x.block < W.heap.size := by obtain ⟨m, hm⟩ := k1; exact DataW.trod_lt m _ _ _ hm
  have k2 := h2
  have lt2 : ∀ x ∈ p2, x.block < W.heap.size := by obtain ⟨m, hm⟩ := k2; exact DataW.trod_lt m _ _ _ hm
  obtain ⟨n0, a0, len0, cap0, es0, rfl, b0⟩ := net_of (hval 0 24 v0 rfl rfl) k0 (weights_at hsz (j := 0) (t := 24) rfl rfl)
  obtain ⟨a1, len1, cap1, rfl⟩ := okWide_slice Try.underlying25 (hval 1 25 v1 rfl rfl)
  obtain ⟨z1, b1⟩ := ints_of k1 (weights_at hsz (j := 1) (t := 25) rfl rfl)
  obtain ⟨a2, rfl, rfl, rfl, w2⟩ := open_int Try.underlying3 (hval 2 3 v2 rfl rfl) h2
  have b2 := in_of_wf w2
  clear hA0 hval0 hsz0 hsz
  refine (walk n0 a0 len0 cap0 es0 a1 len1 cap1 z1 a2 W b0 b1 b2).mono fun e W' ⟨he, bel⟩ => ?_
  subst he
  exact ⟨_, rfl, _, _, _, [], _, [], hW', trodAll_mk1 (shut_bool Try.underlying4 _), (trodAll_cons_mk (Below.trod laidOut (by kernel_rfl) (of_decide_eq_true (by kernel_rfl)) k0 bel lt0) (trodAll_cons_mk (Below.trod laidOut (by kernel_rfl) (of_decide_eq_true (by kernel_rfl)) k1 bel lt1) (trodAll_cons_mk (Below.trod laidOut (by kernel_rfl) (of_decide_eq_true (by kernel_rfl)) k2 bel lt2) trodAll_mk0))), rfl, bel.frame _, fun h => by cases h⟩

theorem over : Rows.flowAddsRow.holds Try.pinned (OpenSpec.ofChange Rows.flowAddsSpec) :=
  OpenClaim.holds_of_wide 6 Try.f6 rfl rfl rfl rfl rfl rfl rfl ⟨rfl, rfl, rfl, rfl, rfl⟩ rfl rfl rfl rfl rfl (by kernel_rfl) Try.func6 (by kernel_rfl)
    (of_decide_eq_true (by kernel_rfl)) (by unfold Func.isWrapper; first | (rw [if_pos (by decide +kernel)]; kernel_rfl) | (rw [if_neg (by decide +kernel)]; exact ⟨rfl, rfl⟩))
    (fun os started H enc _ => lifted os started H enc)

theorem proved : Rows.FlowAddsSaid := over
end Go.Proofs.Ytcbfgdiddhhhcaa.lawAdds
