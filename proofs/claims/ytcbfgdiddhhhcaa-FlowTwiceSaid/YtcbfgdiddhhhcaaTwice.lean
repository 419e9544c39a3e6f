/-
  The statement FlowTwice is proved for every network, every list of numbers and every two numbers: to push twice is to push the sum at once. No condition.
-/
import Derived.Test.YtcbfgdiddhhhcaaTold6
import Derived.Test.YtcbfgdiddhhhcaaMost
import Derived.Test.YtcbfgdiddhhhcaaValue
import Derived.Test.YtcbfgdiddhhhcaaRows
namespace Go.Proofs.Ytcbfgdiddhhhcaa.lawTwice
open Go.ChangeShapes Go.WideShapes Go.ChangeAt Go.RowKit Gm

set_option maxRecDepth 100000 in
set_option maxHeartbeats 4000000 in
theorem walk (v : Int) (a : Option Addr) (len cap : Nat) (es : List E) (ra : Option Addr) (rlen rcap : Nat) (raw : List Int) (one two : Int) (w : World) (h0 : I64 v ∧ NetAt w.heap.size w a len es ∧ Wide es) (h1 : FlowAt w.heap.size w ra rlen raw ∧ ∀ x ∈ raw, I64 x) (ho : I64 one) (ht : I64 two) :
    Calls Try.prog 7 #[netV v a len cap, .slice ra rlen rcap, .int .i64 one, .int .i64 two] w fun e w' => e = .returned (.bool true) ∧ Below w.heap.size w w' := by
  obtain ⟨hv, hE, hW⟩ := h0
  obtain ⟨hR, hraw⟩ := h1
  obtain ⟨W0, hW0⟩ : ∃ W0, w.alloc (.cells #[.int .i64 v, .slice a len cap] 24) = W0 := ⟨_, rfl⟩
  have hB0 : Below w.heap.size w W0 := by rw [← hW0]; exact (Below.refl _ w).alloc (Nat.le_refl _) _
  have bN : Blk W0 w.heap.size 24 #[.int .i64 v, .slice a len cap] := by rw [← hW0]; exact Blk.new w _ _
  have HW0 := Lib.hid hW0
  have HV := Lib.hid hv
  have HE := Lib.hid hE
  have HWI := Lib.hid hW
  have HR := Lib.hid hR
  have HRAW := Lib.hid hraw
  have hN := fitN_bd v
  obtain ⟨n, hn⟩ : ∃ n : Nat, fitN v = n := ⟨(fitN v).toNat, by omega⟩
  rw [hn] at hN
  have HRT := Lib.hid (fit_right v es)
  rw [hn] at HRT
  have HNN := Lib.hid hn
  have HO := Lib.hid ho
  have HT := Lib.hid ht
  have hq1 := pk_bd one 20 (by omega)
  obtain ⟨q1, hq1e⟩ : ∃ q, pk one 20 = q := ⟨_, rfl⟩
  rw [hq1e] at hq1
  have HQ1 := Lib.hid hq1e
  have hq2 := pk_bd two 20 (by omega)
  obtain ⟨q2, hq2e⟩ : ∃ q, pk two 20 = q := ⟨_, rfl⟩
  rw [hq2e] at hq2
  have HQ2 := Lib.hid hq2e
  obtain ⟨hq10, hq11⟩ := hq1
  obtain ⟨hq20, hq21⟩ := hq2
  have hz0 := hB0.size
  clear hW0 hv hE hW hR hraw hn ho ht hq1e hq2e
  go_enter Try.func7, Try.ntmps7
  go_wp2_with (first
    | (go_at_call 11; rw [HW0.out]; (with_reducible refine (awake6_any _).mono ?_); rintro e w1 ⟨rfl, hb1⟩
       have bN1 := bN.below hb1 bN.lt
       have hB1 : Below w.heap.size w w1 := hB0.trans (hb1.mono hz0)
       obtain ⟨lN1, n0, n1⟩ := bN1.two)
    | (go_at_call 17; (with_reducible refine (fit_any _ _ _ _ es _ ((HE.out.below hB1).more hB1.size) HV.out HWI.out).mono ?_); rintro e w2 ⟨a2, cap2, rfl, hE2, hb2⟩
       rw [HNN.out] at hE2 ⊢
       have hB2 : Below w.heap.size w w2 := hB1.trans (hb2.mono hB1.size)
       have lN2 : w2.heap.size < w2.heap.size + 1 := by omega)
    | (go_at_call 18; (with_reducible refine (flow_any n _ _ _ (fitEs n es) _ _ _ raw _ (by simpa using (hE2.below ((Below.refl _ w2).alloc (Nat.le_refl _) _)).more (Nat.le_succ _)) (by simpa using (HR.out.below (hB2.alloc hB2.size _)).more (by have := hB2.size; omega)) HRAW.out HRT.out).mono ?_); rintro e w3 ⟨g, fl, rfl, hG, hF3, hb3⟩
       have bM := (Blk.new w2 24 #[.int .i64 (n : Int), .slice a2 (fitEs n es).length cap2]).below hb3 (by simp)
       have hEa := (hE2.below ((Below.refl _ w2).alloc (Nat.le_refl _) (.cells #[.int .i64 (n : Int), .slice a2 (fitEs n es).length cap2] 24))).more (Nat.le_succ _)
       have hE3 : NetAt w3.heap.size w3 a2 (fitEs n es).length (fitEs n es) := by
         have h : NetAt (w2.heap.size + 1) w3 a2 (fitEs n es).length (fitEs n es) := hEa.below (by simpa using hb3)
         exact h.more (by have := hb3.size; simpa using this)
       have hB3 : Below w.heap.size w w3 := (hB2.alloc hB2.size _).trans (hb3.mono (by have := hB2.size; simp; omega))
       have hB3s := hB3.size
       obtain ⟨lM, m0, m1⟩ := bM.two
       have hb3s := hb3.size
       have HG := Lib.hid hG
       have HE3 := Lib.hid hE3
       have HF3 := Lib.hid hF3
       have hGG := hG.gen
       obtain ⟨R1, hR1, hr1⟩ := pushF_good hGG hq10
       obtain ⟨R2, hR2, hr2⟩ := pushF_good hr1.good hq20
       obtain ⟨R3, hR3, hr3⟩ := pushF_good (most := q1 + q2) hGG (by omega)
       have HR1 := Lib.hid hR1
       have HR2 := Lib.hid hR2
       have HR3 := Lib.hid hR3
       obtain ⟨A, x⟩ := R1
       obtain ⟨B, y⟩ := R2
       obtain ⟨C, z⟩ := R3
       dsimp only at *
       obtain ⟨M, hM⟩ := most_some hGG
       have e1 := hr1.min hM
       have e2 := hr2.min hM
       have e3 := hr3.min hM
       have k1 := hr1.more
       have k2 := hr2.more
       have k3 := hr3.more
       have k0 := hM.le _ hGG
       have b1 := hr1.lo
       have b2 := hr1.hi
       have b3 := hr2.lo
       have b4 := hr2.hi
       have b5 := hr3.lo
       have b6 := hr3.hi
       dsimp only at *
       have hsum : x + y = z := by omega
       have hval : gain ((fitEs n es).zip B) 0 = gain ((fitEs n es).zip C) 0 := by omega
       obtain ⟨g0, hg0⟩ : ∃ g0, gain ((fitEs n es).zip B) 0 = g0 := ⟨_, rfl⟩
       have HVB : Hid (value n (fitEs n es) B 0 = g0) := Lib.hid (by rw [hr2.good.value, hg0])
       have HVC : Hid (value n (fitEs n es) C 0 = g0) := Lib.hid (by rw [hr3.good.value, ← hval, hg0])
       have hwr : IntKind.i64.wrap z = z := IntWalk.i64_in _ (by omega)
       have HWR := Lib.hid hwr
       have HSUM := Lib.hid hsum
       have hwq : IntKind.i64.wrap (q1 + q2) = q1 + q2 := IntWalk.i64_in _ (by omega)
       clear hE2 hEa hE3 hF3 hG hb1 hb2 hb3 bN bN1 lN1 n0 n1 hB0 hB1 hB2 lN2 hz0 e1 e2 e3 k1 k2 k3 k0 hval hg0 hR1 hR2 hR3 hr1 hr2 hr3 hM hGG hwr hsum)
    | (go_at_call 20; (with_reducible refine (pick6_any _ _ _ HO.out (by omega) (by omega)).mono ?_); rw [HQ1.out]; rintro e wp ⟨rfl, rfl⟩)
    | (go_at_call 20; (with_reducible refine (pick6_any _ _ _ HT.out (by omega) (by omega)).mono ?_); rw [HQ2.out]; rintro e wp ⟨rfl, rfl⟩)
    | (go_at_call 12; (with_reducible refine (push_any _ _ _ _ (fitEs n es) _ _ _ fl 0 1 q1 _ HE3.out HF3.out (by unfold I64; omega)).mono ?_); rw [HR1.out]; rintro e w4 ⟨a4, l4, c4, he, hF4, hb4⟩
       dsimp only at he hF4
       subst he
       have bM4 := bM.below hb4 bM.lt
       obtain ⟨lM4, m40, m41⟩ := bM4.two
       have HA4 := Lib.hid hF4
       have HE4 := Lib.hid (net_on HE3.out hb4)
       have HF4 := Lib.hid (flow_on HF3.out hb4)
       have hB4 := hB3.trans (hb4.mono hB3s)
       have hz4 := hB4.size
       clear hF4 hb4)
    | (go_at_call 12; (with_reducible refine (push_any _ _ _ _ (fitEs n es) _ _ _ A 0 1 q2 _ HE4.out HA4.out (by unfold I64; omega)).mono ?_); rw [HR2.out]; rintro e w5 ⟨a5, l5, c5, he, hF5, hb5⟩
       dsimp only at he hF5
       subst he
       have bM5 := bM4.below hb5 bM4.lt
       obtain ⟨lM5, m50, m51⟩ := bM5.two
       have HB5 := Lib.hid hF5
       have HE5 := Lib.hid (net_on HE4.out hb5)
       have HF5 := Lib.hid (flow_on HF4.out hb5)
       have hB5 := hB4.trans (hb5.mono hz4)
       have hz5 := hB5.size
       clear hF5 hb5)
    | (go_at_call 12; (with_reducible refine (push_any _ _ _ _ (fitEs n es) _ _ _ fl 0 1 (q1 + q2) _ HE5.out HF5.out (by unfold I64; omega)).mono ?_); rw [HR3.out]; rintro e w6 ⟨a6, l6, c6, he, hF6, hb6⟩
       dsimp only at he hF6
       subst he
       have bM6 := bM5.below hb6 bM5.lt
       have HC6 := Lib.hid hF6
       have HB6 := Lib.hid (flow_on HB5.out hb6)
       have HE6 := Lib.hid (net_on HE5.out hb6)
       have hB6 := hB5.trans (hb6.mono hz5)
       have hz6 := hB6.size
       clear hF6 hb6))
  have hcells : ∀ W, Below w6.heap.size w6 W → W.cell? ⟨w2.heap.size, 0, none⟩ = some (.int .i64 (n : Int)) ∧ W.cell? ⟨w2.heap.size, 1, none⟩ = some (.slice a2 (fitEs n es).length cap2) := fun W h => (bM6.below h bM6.lt).two.2
  have HCE := Lib.hid hcells
  have hbd := (Below.refl w6.heap.size w6).drew
  have hwr := HWR.out
  have hsum := HSUM.out
  clear hcells bM bM4 bM5 m0 m1 lM m40 m41 m50 m51 hwq
  (refine region_calm (fun W => Below w6.heap.size w6 W) (by kernel_rfl) (by kernel_rfl) (hbd) ?_
   repeat (
     refine wpQuiet_step (fun K hK => ?_)
     first
       | (refine calm_neg ?_ ?_
          focus (go_simp; done)
          go_simp
          refine hK _ ?_
          clear hK K)
       | (apply calm_pos
          focus (go_simp; done)
          focus (
            intro W hW
            (obtain ⟨d0, d1⟩ := HCE.out W hW)
            go_simp
            first
              | done
              | exact rfl
              | (first
                  | (go_at_call 24; (with_reducible refine (value_any _ _ _ _ (fitEs n es) _ _ _ B 0 _ (net_on HE6.out hW) (flow_on HB6.out hW)).mono ?_); rw [HVB.out]; rintro e w7 ⟨rfl, hb7⟩; exact ⟨rfl, on_below hW hb7⟩)
                  | (go_at_call 24; (with_reducible refine (value_any _ _ _ _ (fitEs n es) _ _ _ C 0 _ (net_on HE6.out hW) (flow_on HC6.out hW)).mono ?_); rw [HVC.out]; rintro e w7 ⟨rfl, hb7⟩; exact ⟨rfl, on_below hW hb7⟩)))
          go_simp
          refine hK _ ?_
          clear hK K))
   refine wpQuiet_nil ?_)
  intro w7 hb7
  clear hwr hsum
  go_wp2
  go_ret
  exact ⟨rfl, hB6.trans (hb7.mono hz6)⟩

theorem own : ownKnob Try.prog.godebug = none := by kernel_rfl
theorem laidOut : laidOutB Try.prog = true := by kernel_rfl

set_option maxRecDepth 100000 in
theorem lifted (os : Os) (started : os.Started) (H : Type) (enc : TypeId × Value → H) :
    ReturnsInHanded {} Try.checked os 7 .any (Rows.flowTwiceSpec.pre6 enc Try.prog Try.f7 Rows.flowTwiceRow.domain false) (Rows.flowTwiceSpec.post enc Try.prog Try.f7 false true false false) := by
  refine returnsInHanded_of_change_sized (C := Try.checked) own started (by kernel_rfl) Try.func7
    (ChangeSpec.witness6 (enc := enc) (C := Try.checked) false ⟨#[], #[.agg #[.int .i64 0, .slice none 0 0], .slice none 0 0, .int .i64 0, .int .i64 0], []⟩ 8 (by kernel_rfl) (by kernel_rfl) (by kernel_rfl) (by kernel_rfl)) ?_
  intro W base args ds gs before hval0 hW _ hsz0 _
  have hsz : (DataW.weightsEach Try.prog (Try.f7.params.toList ++ Rows.flowTwiceSpec.plain.varTypes Try.prog) (ds ++ gs)).all (· ≤ reachBytes) = true := hsz0
  have hval : ∀ (j : Nat) t v, Try.f7.params[j]? = some t → args[j]? = some v → Value.okWide Try.prog W .any base t v := hval0
  have hW' := hW
  obtain ⟨p, q, hA0, hV, rfl, hfz, hnd⟩ := hW
  have hA : DataW.TrodAll enc Try.prog W 0 (fun _ => true) true Try.f7.params.toList args.toList ds p := hA0
  rw [Try.params7] at hA hval hsz
  obtain ⟨v0, vs0, d0, ds0, p0, q0, hargs, rfl, rfl, h0, r0⟩ := trodAll_cons hA
  obtain ⟨v1, vs1, d1, ds1, p1, q1, rfl, rfl, rfl, h1, r1⟩ := trodAll_cons r0
  obtain ⟨v2, vs2, d2, ds2, p2, q2, rfl, rfl, rfl, h2, r2⟩ := trodAll_cons r1
  obtain ⟨v3, vs3, d3, ds3, p3, q3, rfl, rfl, rfl, h3, r3⟩ := trodAll_cons r2
  obtain ⟨rfl, rfl, rfl⟩ := trodAll_nil r3
  obtain rfl : args = #[v0, v1, v2, v3] := by cases args; simp_all
  obtain ⟨rfl, rfl⟩ := trodVars_none hV
  have k0 := h0
  have lt0 : ∀ x ∈ p0, x.block < W.heap.size := by obtain ⟨m, hm⟩ := k0; exact DataW.trod_lt m _ _ _ hm
  have k1 := h1
  have lt1 : ∀ x ∈ p1, x.block < W.heap.size := by obtain ⟨m, hm⟩ := k1; exact DataW.trod_lt m _ _ _ hm
  have k2 := h2
  have lt2 : ∀ x ∈ p2, x.block < W.heap.size := by obtain ⟨m, hm⟩ := k2; exact DataW.trod_lt m _ _ _ hm
  have k3 := h3
  have lt3 : ∀ x ∈ p3, x.block < W.heap.size := by obtain ⟨m, hm⟩ := k3; exact DataW.trod_lt m _ _ _ hm
  obtain ⟨n0, a0, len0, cap0, es0, rfl, b0⟩ := net_of (hval 0 24 v0 rfl rfl) k0 (weights_at hsz (j := 0) (t := 24) rfl rfl)
  obtain ⟨a1, len1, cap1, rfl⟩ := okWide_slice Try.underlying25 (hval 1 25 v1 rfl rfl)
  obtain ⟨z1, b1⟩ := ints_of k1 (weights_at hsz (j := 1) (t := 25) rfl rfl)
  obtain ⟨a2, rfl, rfl, rfl, w2⟩ := open_int Try.underlying3 (hval 2 3 v2 rfl rfl) h2
  have b2 := in_of_wf w2
  obtain ⟨a3, rfl, rfl, rfl, w3⟩ := open_int Try.underlying3 (hval 3 3 v3 rfl rfl) h3
  have b3 := in_of_wf w3
  clear hA0 hval0 hsz0 hsz
  refine (walk n0 a0 len0 cap0 es0 a1 len1 cap1 z1 a2 a3 W b0 b1 b2 b3).mono fun e W' ⟨he, bel⟩ => ?_
  subst he
  exact ⟨_, rfl, _, _, _, [], _, [], hW', trodAll_mk1 (shut_bool Try.underlying4 _), (trodAll_cons_mk (Below.trod laidOut (by kernel_rfl) (of_decide_eq_true (by kernel_rfl)) k0 bel lt0) (trodAll_cons_mk (Below.trod laidOut (by kernel_rfl) (of_decide_eq_true (by kernel_rfl)) k1 bel lt1) (trodAll_cons_mk (Below.trod laidOut (by kernel_rfl) (of_decide_eq_true (by kernel_rfl)) k2 bel lt2) (trodAll_cons_mk (Below.trod laidOut (by kernel_rfl) (of_decide_eq_true (by kernel_rfl)) k3 bel lt3) trodAll_mk0)))), rfl, bel.frame _, fun h => by cases h⟩

theorem over : Rows.flowTwiceRow.holds Try.pinned (OpenSpec.ofChange Rows.flowTwiceSpec) :=
  OpenClaim.holds_of_wide 7 Try.f7 rfl rfl rfl rfl rfl rfl rfl ⟨rfl, rfl, rfl, rfl, rfl⟩ rfl rfl rfl rfl rfl (by kernel_rfl) Try.func7 (by kernel_rfl)
    (of_decide_eq_true (by kernel_rfl)) (by unfold Func.isWrapper; first | (rw [if_pos (by decide +kernel)]; kernel_rfl) | (rw [if_neg (by decide +kernel)]; exact ⟨rfl, rfl⟩))
    (fun os started H enc _ => lifted os started H enc)

theorem proved : Rows.FlowTwiceSaid := over
end Go.Proofs.Ytcbfgdiddhhhcaa.lawTwice
