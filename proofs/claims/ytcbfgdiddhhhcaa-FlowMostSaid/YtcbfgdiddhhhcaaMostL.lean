/-
  The statement FlowMost is proved for every network, every two numbers and every list of numbers: what Max answers is good, no good flow has more, and a Cut says so. No condition.
-/
import Derived.Test.YtcbfgdiddhhhcaaTold6
import Derived.Test.YtcbfgdiddhhhcaaMost
import Derived.Test.YtcbfgdiddhhhcaaFlow
import Derived.Test.YtcbfgdiddhhhcaaRef3
import Derived.Test.YtcbfgdiddhhhcaaRef4
import Derived.Test.YtcbfgdiddhhhcaaRows
namespace Go.Proofs.Ytcbfgdiddhhhcaa.lawMostL
open Go.ChangeShapes Go.WideShapes Go.ChangeAt Go.RowKit Gm

set_option maxRecDepth 100000 in
set_option maxHeartbeats 4000000 in
theorem walk (v : Int) (a : Option Addr) (len cap : Nat) (es : List E) (s t : Int) (ra : Option Addr) (rlen rcap : Nat) (raw : List Int) (w : World) (h0 : I64 v ∧ NetAt w.heap.size w a len es ∧ Wide es) (hs : I64 s) (ht : I64 t) (h1 : FlowAt w.heap.size w ra rlen raw ∧ ∀ x ∈ raw, I64 x) :
    Calls Try.prog 5 #[netV v a len cap, .int .i64 s, .int .i64 t, .slice ra rlen rcap] w fun e w' => e = .returned (.bool true) ∧ Below w.heap.size w w' := by
  obtain ⟨hv, hE, hW⟩ := h0
  obtain ⟨hR, hraw⟩ := h1
  obtain ⟨W0, hW0⟩ : ∃ W0, w.alloc (.cells #[.int .i64 v, .slice a len cap] 24) = W0 := ⟨_, rfl⟩
  have hB0 : Below w.heap.size w W0 := by rw [← hW0]; exact (Below.refl _ w).alloc (Nat.le_refl _) _
  have bN : Blk W0 w.heap.size 24 #[.int .i64 v, .slice a len cap] := by rw [← hW0]; exact Blk.new w _ _
  have HW0 := Lib.hid hW0
  have HV := Lib.hid hv
  have HE := Lib.hid hE
  have HWI := Lib.hid hW
  have HR := Lib.hid hR
  have HRAW := Lib.hid hraw
  have hN := fitN_bd v
  obtain ⟨n, hn⟩ : ∃ n : Nat, fitN v = n := ⟨(fitN v).toNat, by omega⟩
  rw [hn] at hN
  have HRT := Lib.hid (fit_right v es)
  rw [hn] at HRT
  have HNN := Lib.hid hn
  have HSI := Lib.hid hs
  have HTI := Lib.hid ht
  have hq1 := pk_bd s n (by omega)
  obtain ⟨q1, hq1e⟩ : ∃ q, pk s n = q := ⟨_, rfl⟩
  rw [hq1e] at hq1
  have HQ1 := Lib.hid hq1e
  have hq2 := pk_bd t ((n : Int) - 1) (by omega)
  obtain ⟨q2, hq2e⟩ : ∃ q, pk t ((n : Int) - 1) = q := ⟨_, rfl⟩
  rw [hq2e] at hq2
  have HQ2 := Lib.hid hq2e
  obtain ⟨hq10, hq11⟩ := hq1
  obtain ⟨hq20, hq21⟩ := hq2
  have htm : (q1 + 1 + q2).tmod n = (q1 + 1 + q2) % n := Int.tmod_eq_emod_of_nonneg (by omega)
  obtain ⟨T, hT⟩ : ∃ T, (q1 + 1 + q2) % (n : Int) = T := ⟨_, rfl⟩
  have hT0 : 0 ≤ T := by rw [← hT]; exact Int.emod_nonneg _ (by omega)
  have hT1 : T < n := by rw [← hT]; exact Int.emod_lt_of_pos _ (by omega)
  have hTq : q1 ≠ T := by
    intro e
    have h := Int.mul_ediv_add_emod (q1 + 1 + q2) n
    rw [hT, ← e] at h
    have h2 : (n : Int) * ((q1 + 1 + q2) / n) = 1 + q2 := by omega
    rcases Int.lt_trichotomy ((q1 + 1 + q2) / (n : Int)) 1 with h3 | h3 | h3
    · have : (n : Int) * ((q1 + 1 + q2) / n) ≤ n * 0 := Int.mul_le_mul_of_nonneg_left (by omega) (by omega)
      omega
    · rw [h3] at h2; omega
    · have : (n : Int) * 2 ≤ (n : Int) * ((q1 + 1 + q2) / n) := Int.mul_le_mul_of_nonneg_left (by omega) (by omega)
      omega
  have HT := Lib.hid hT
  have hw1 : IntKind.i64.wrap (q1 + 1) = q1 + 1 := IntWalk.i64_in _ (by omega)
  have hw2 : IntKind.i64.wrap (q1 + 1 + q2) = q1 + 1 + q2 := IntWalk.i64_in _ (by omega)
  have hw3 : IntKind.i64.wrap ((n : Int) - 1) = (n : Int) - 1 := IntWalk.i64_in _ (by omega)
  have hn0 : ¬ n = 0 := by omega
  have hz0 := hB0.size
  clear hW0 hv hE hW hR hraw hn hs ht hq1e hq2e hT
  go_enter Try.func5, Try.ntmps5
  go_upto_region 4 with (first
    | (go_at_call 11; rw [HW0.out]; (with_reducible refine (awake6_any _).mono ?_); rintro e w1 ⟨rfl, hb1⟩
       have bN1 := bN.below hb1 bN.lt
       have hB1 : Below w.heap.size w w1 := hB0.trans (hb1.mono hz0)
       obtain ⟨lN1, n0, n1⟩ := bN1.two)
    | (go_at_call 17; (with_reducible refine (fit_any _ _ _ _ es _ ((HE.out.below hB1).more hB1.size) HV.out HWI.out).mono ?_); rintro e w2 ⟨a2, cap2, rfl, hE2, hb2⟩
       rw [HNN.out] at hE2 ⊢
       have hB2 : Below w.heap.size w w2 := hB1.trans (hb2.mono hB1.size)
       have lN2 : w2.heap.size < w2.heap.size + 1 := by omega)
    | (go_at_call 20; (with_reducible refine (pick6_any _ _ _ HSI.out (by omega) (by omega)).mono ?_); rw [HQ1.out]; rintro e wp ⟨rfl, rfl⟩))
  obtain ⟨w3, hw3e⟩ : ∃ W, w2.alloc (.cells #[.int .i64 (n : Int), .slice a2 (fitEs n es).length cap2] 24) = W := ⟨_, rfl⟩
  have bM : Blk w3 w2.heap.size 24 #[.int .i64 (n : Int), .slice a2 (fitEs n es).length cap2] := hw3e ▸ Blk.new w2 _ _
  have hB3 : Below w.heap.size w w3 := hw3e ▸ hB2.alloc hB2.size _
  have HE3 : Hid (NetAt w3.heap.size w3 a2 (fitEs n es).length (fitEs n es)) := Lib.hid (net_on hE2 (hw3e ▸ (Below.refl _ w2).alloc (Nat.le_refl _) _))
  have hB3s := hB3.size
  rw [hw3e]
  have hcells : ∀ W, Below w3.heap.size w3 W → W.cell? ⟨w2.heap.size, 0, none⟩ = some (.int .i64 (n : Int)) ∧ W.cell? ⟨w2.heap.size, 1, none⟩ = some (.slice a2 (fitEs n es).length cap2) := fun W h => (bM.below h bM.lt).two.2
  have HCE := Lib.hid hcells
  have hbd := (Below.refl w3.heap.size w3).drew
  clear hcells hw3e hE2 hb1 hb2 bN bN1 lN1 n0 n1 hB0 hB1 hB2 lN2 hz0
  (refine region_calm (fun W => Below w3.heap.size w3 W) (by kernel_rfl) (by kernel_rfl) (hbd) ?_
   repeat (
     refine wpQuiet_step (fun K hK => ?_)
     first
       | (refine calm_neg ?_ ?_
          focus (go_simp; done)
          go_simp
          refine hK _ ?_
          clear hK K)
       | (apply calm_pos
          focus (go_simp; done)
          focus (
            intro W hW
            (obtain ⟨d0, d1⟩ := HCE.out W hW)
            go_simp
            first
              | done
              | exact rfl
              | (go_at_call 20; (with_reducible refine (pick6_any _ _ _ HTI.out (by omega) (by omega)).mono ?_); rw [HQ2.out]; rintro e wp ⟨rfl, rfl⟩; exact ⟨rfl, hW⟩))
          go_simp
          refine hK _ ?_
          clear hK K))
   refine wpQuiet_nil ?_)
  intro w4 hb4
  clear hw1 hw2 hw3 hn0 hbd
  rw [HT.out]
  have bM4 := bM.below hb4 bM.lt
  obtain ⟨lM4, m40, m41⟩ := bM4.two
  have HE4 := Lib.hid (net_on HE3.out hb4)
  have hB4 := hB3.trans (hb4.mono hB3s)
  have hz4 := hB4.size
  obtain ⟨R, hR, hG, hgain, hmost, hseen, hR0, hR1⟩ := maxF_good (n := n) (es := fitEs n es) HRT.out hq10 hq11 hT0 hT1 hTq
  obtain ⟨f, m⟩ := R
  dsimp only at hR hG hgain hmost hseen hR0 hR1
  have HM := Lib.hid hR
  have HGD := Lib.hid (goodG_iff.2 hG)
  have HFI := Lib.hid hG.fits
  have HVA : Hid (value n (fitEs n es) f q1 = m) := Lib.hid (by rw [hG.value, hgain])
  have hb := reached_one (reach_is (n := n) (z := (fitEs n es).zip f) (s := q1) (by omega) (by omega) hG.ok) (bfs_reached (right_iff.1 hG.net).2.2.2 hG.len hG.s0 hG.s1)
  have hcut : cut n (fitEs n es) (bfs n (fitEs n es) f q1).seen = m := by rw [(most_of hG hseen).2, hgain]
  obtain ⟨S, hS⟩ : ∃ S, (bfs n (fitEs n es) f q1).seen = S := ⟨_, rfl⟩
  rw [hS] at hb hcut hseen
  have HRE := Lib.hid hb
  have HCUT := Lib.hid hcut
  have hSL : S.length = n := by rw [← hb, reach_length]; omega
  have HSL := Lib.hid hSL
  have HSEEN : Hid (S[T.toNat]?.getD false = false) := Lib.hid hseen
  have HMOST : Hid (∀ g, GoodF n (fitEs n es) g → q1 = 0 → T = 1 → value n (fitEs n es) g 0 ≤ m) := Lib.hid (fun g hg e1 e2 => by
    subst e1
    subst e2
    rw [hg.gen.value]
    exact hmost.le g hg.gen)
  have hvq : vtx n q1 = true := by simp [vtx]; omega
  have HVQ := Lib.hid hvq
  clear hR hG hgain hmost hseen hb hcut hS hSL hvq htm bM hb4
  go_upto_region 10 with (first
    | (go_at_call 14; (with_reducible refine (max_any _ _ _ _ (fitEs n es) q1 T _ HE4.out).mono ?_); rw [HM.out]; rintro e w5 ⟨a5, l5, c5, he, hF5, hb5⟩
       dsimp only at he hF5
       subst he
       have bM5 := bM4.below hb5 bM4.lt
       obtain ⟨lM5, m50, m51⟩ := bM5.two
       have HF5 := Lib.hid hF5
       have HE5 := Lib.hid (net_on HE4.out hb5)
       have hB5 := hB4.trans (hb5.mono hz4)
       have hz5 := hB5.size
       clear hF5 hb5)
    | (go_at_call 19; (with_reducible refine (qgood_any _ _ _ _ (fitEs n es) _ _ _ f q1 T _ HE5.out HF5.out).mono ?_); rw [HGD.out]; rintro e w6 ⟨rfl, hb6⟩
       have bM6 := bM5.below hb6 bM5.lt
       obtain ⟨lM6, m60, m61⟩ := bM6.two
       have HF6 := Lib.hid (flow_on HF5.out hb6)
       have HE6 := Lib.hid (net_on HE5.out hb6)
       have hB6 := hB5.trans (hb6.mono hz5)
       have hz6 := hB6.size
       clear hb6)
    | (go_at_call 21; (with_reducible refine (qvalue_any _ _ _ _ (fitEs n es) _ _ _ f q1 _ HE6.out HF6.out).mono ?_); rw [HVA.out]; rintro e w7 ⟨rfl, hb7⟩
       have bM7 := bM6.below hb7 bM6.lt
       obtain ⟨lM7, m70, m71⟩ := bM7.two
       have HF7 := Lib.hid (flow_on HF6.out hb7)
       have HE7 := Lib.hid (net_on HE6.out hb7)
       have hB7 := hB6.trans (hb7.mono hz6)
       have hz7 := hB7.size
       clear hb7)
    | (go_at_call 22; (with_reducible refine (qreach_yes n _ _ _ (fitEs n es) _ _ _ f q1 _ HE7.out HF7.out HFI.out HVQ.out).mono ?_); rintro e w8 ⟨gr, rfl, hgr, bR, hb8⟩; rw [HRE.out] at bR
       have bM8 := bM7.below hb8 bM7.lt
       obtain ⟨lM8, m80, m81⟩ := bM8.two
       have HE8 := Lib.hid (net_on HE7.out hb8)
       have hB8 := hB7.trans (hb8.mono hz7)
       have hz8 := hB8.size
       have HR8 := Lib.hid (flow_on ((HR.out.below hB8).more hz8) (Below.refl _ _))
       clear hb8)
    | (go_at_call 18; (with_reducible refine (flow_any n _ _ _ (fitEs n es) _ _ _ raw _ HE8.out HR8.out HRAW.out HRT.out).mono ?_); rintro e w9 ⟨g9, f9, rfl, hG9, hF9, hb9⟩
       have bM9 := bM8.below hb9 bM8.lt
       have bR9 := bR.below hb9 bR.lt
       obtain ⟨lM9, m90, m91⟩ := bM9.two
       have HE9 := Lib.hid (net_on HE8.out hb9)
       have HF9 := Lib.hid hF9
       have HG9 := Lib.hid hG9
       have hB9 := hB8.trans (hb9.mono hz8)
       have hz9 := hB9.size
       clear hb9 hF9 hG9))
  have c1 := bR9.cell T.toNat
  rw [boolsA_at _ _ (by rw [HSL.out]; omega), HSEEN.out] at c1
  have lR9 := bR9.lt
  have HS9 := Lib.hid (side_blk bR9 HSL.out (by omega))
  have hTn : T < (n : Int) := hT1
  obtain ⟨V, hV⟩ : ∃ V, value n (fitEs n es) f9 0 = V := ⟨_, rfl⟩
  have HV9 := Lib.hid hV
  have hsp : (q1 = 0 ∧ T = 1 ∧ V ≤ m) ∨ (q1 ≠ 0) ∨ (q1 = 0 ∧ T ≠ 1) := by
    by_cases e1 : q1 = 0
    · by_cases e2 : T = 1
      · exact .inl ⟨e1, e2, by rw [← hV]; exact HMOST.out f9 HG9.out e1 e2⟩
      · exact .inr (.inr ⟨e1, e2⟩)
    · exact .inr (.inl e1)
  clear bR bM4 bM5 bM6 bM7 bM8 bR9 hV lM4 lM5 lM6 lM7 lM8 m40 m41 m50 m51 m60 m61 m70 m71 m80 m81
  rcases hsp with ⟨e1, e2, e3⟩ | e1 | ⟨e1, e2⟩
  · have t1 : (q1 != 0) = false := by simp [e1]
    have t2 : (T != 1) = false := by simp [e2]
    have t3 : decide (V ≤ m) = true := by simp [e3]
    clear e1 e2
    go_wp2_with (first
      | (go_at_call 23; (with_reducible refine (qcut_any _ _ _ _ (fitEs n es) _ _ _ S _ HE9.out HS9.out).mono ?_); rw [HCUT.out]; rintro e w10 ⟨rfl, hb10⟩
         have bM10 := bM9.below hb10 bM9.lt
         obtain ⟨lM10, m100, m101⟩ := bM10.two
         have HE10 := Lib.hid (net_on HE9.out hb10)
         have HF10 := Lib.hid (flow_on HF9.out hb10)
         have hB10 := hB9.trans (hb10.mono hz9)
         have hz10 := hB10.size)
      | (go_at_call 21; (with_reducible refine (qvalue_any _ _ _ _ (fitEs n es) _ _ _ f9 0 _ HE10.out HF10.out).mono ?_); rw [HV9.out]; rintro e w11 ⟨rfl, hb11⟩))
    go_ret
    exact ⟨rfl, hB10.trans (hb11.mono hz10)⟩
  · have t1 : (q1 != 0) = true := by simp [e1]
    clear e1
    go_wp2_with (go_at_call 23; (with_reducible refine (qcut_any _ _ _ _ (fitEs n es) _ _ _ S _ HE9.out HS9.out).mono ?_); rw [HCUT.out]; rintro e w10 ⟨rfl, hb10⟩)
    go_ret
    exact ⟨rfl, hB9.trans (hb10.mono hz9)⟩
  · have t1 : (q1 != 0) = false := by simp [e1]
    have t2 : (T != 1) = true := by simp [e2]
    clear e1 e2
    go_wp2_with (go_at_call 23; (with_reducible refine (qcut_any _ _ _ _ (fitEs n es) _ _ _ S _ HE9.out HS9.out).mono ?_); rw [HCUT.out]; rintro e w10 ⟨rfl, hb10⟩)
    go_ret
    exact ⟨rfl, hB9.trans (hb10.mono hz9)⟩

theorem own : ownKnob Try.prog.godebug = none := by kernel_rfl
theorem laidOut : laidOutB Try.prog = true := by kernel_rfl

set_option maxRecDepth 100000 in
theorem lifted (os : Os) (started : os.Started) (H : Type) (enc : TypeId × Value → H) :
    ReturnsInHanded {} Try.checked os 5 .any (Rows.flowMostSpec.pre6 enc Try.prog Try.f5 Rows.flowMostRow.domain false) (Rows.flowMostSpec.post enc Try.prog Try.f5 false true false false) := by
  refine returnsInHanded_of_change_sized (C := Try.checked) own started (by kernel_rfl) Try.func5
    (ChangeSpec.witness6 (enc := enc) (C := Try.checked) false ⟨#[], #[.agg #[.int .i64 0, .slice none 0 0], .int .i64 0, .int .i64 0, .slice none 0 0], []⟩ 8 (by kernel_rfl) (by kernel_rfl) (by kernel_rfl) (by kernel_rfl)) ?_
  intro W base args ds gs before hval0 hW _ hsz0 _
  have hsz : (DataW.weightsEach Try.prog (Try.f5.params.toList ++ Rows.flowMostSpec.plain.varTypes Try.prog) (ds ++ gs)).all (· ≤ reachBytes) = true := hsz0
  have hval : ∀ (j : Nat) t v, Try.f5.params[j]? = some t → args[j]? = some v → Value.okWide Try.prog W .any base t v := hval0
  have hW' := hW
  obtain ⟨p, q, hA0, hV, rfl, hfz, hnd⟩ := hW
  have hA : DataW.TrodAll enc Try.prog W 0 (fun _ => true) true Try.f5.params.toList args.toList ds p := hA0
  rw [Try.params5] at hA hval hsz
  obtain ⟨v0, vs0, d0, ds0, p0, q0, hargs, rfl, rfl, h0, r0⟩ := trodAll_cons hA
  obtain ⟨v1, vs1, d1, ds1, p1, q1, rfl, rfl, rfl, h1, r1⟩ := trodAll_cons r0
  obtain ⟨v2, vs2, d2, ds2, p2, q2, rfl, rfl, rfl, h2, r2⟩ := trodAll_cons r1
  obtain ⟨v3, vs3, d3, ds3, p3, q3, rfl, rfl, rfl, h3, r3⟩ := trodAll_cons r2
  obtain ⟨rfl, rfl, rfl⟩ := trodAll_nil r3
  obtain rfl : args = #[v0, v1, v2, v3] := by cases args; simp_all
  obtain ⟨rfl, rfl⟩ := trodVars_none hV
  have k0 := h0
  have lt0 : ∀ x ∈ p0, x.block < W.heap.size := by obtain ⟨m, hm⟩ := k0; exact DataW.trod_lt m _ _ _ hm
  have k1 := h1
  have lt1 : ∀ x ∈ p1, x.block < W.heap.size := by obtain ⟨m, hm⟩ := k1; exact DataW.trod_lt m _ _ _ hm
  have k2 := h2
  have lt2 : ∀ x ∈ p2, x.block < W.heap.size := by obtain ⟨m, hm⟩ := k2; exact DataW.trod_lt m _ _ _ hm
  have k3 := h3
  have lt3 : ∀ x ∈ p3, x.block < W.heap.size := by obtain ⟨m, hm⟩ := k3; exact DataW.trod_lt m _ _ _ hm
  obtain ⟨n0, a0, len0, cap0, es0, rfl, b0⟩ := net_of (hval 0 24 v0 rfl rfl) k0 (weights_at hsz (j := 0) (t := 24) rfl rfl)
  obtain ⟨a1, rfl, rfl, rfl, w1⟩ := open_int Try.underlying3 (hval 1 3 v1 rfl rfl) h1
  have b1 := in_of_wf w1
  obtain ⟨a2, rfl, rfl, rfl, w2⟩ := open_int Try.underlying3 (hval 2 3 v2 rfl rfl) h2
  have b2 := in_of_wf w2
  obtain ⟨a3, len3, cap3, rfl⟩ := okWide_slice Try.underlying25 (hval 3 25 v3 rfl rfl)
  obtain ⟨z3, b3⟩ := ints_of k3 (weights_at hsz (j := 3) (t := 25) rfl rfl)
  clear hA0 hval0 hsz0 hsz
  refine (walk n0 a0 len0 cap0 es0 a1 a2 a3 len3 cap3 z3 W b0 b1 b2 b3).mono fun e W' ⟨he, bel⟩ => ?_
  subst he
  exact ⟨_, rfl, _, _, _, [], _, [], hW', trodAll_mk1 (shut_bool Try.underlying4 _), (trodAll_cons_mk (Below.trod laidOut (by kernel_rfl) (of_decide_eq_true (by kernel_rfl)) k0 bel lt0) (trodAll_cons_mk (Below.trod laidOut (by kernel_rfl) (of_decide_eq_true (by kernel_rfl)) k1 bel lt1) (trodAll_cons_mk (Below.trod laidOut (by kernel_rfl) (of_decide_eq_true (by kernel_rfl)) k2 bel lt2) (trodAll_cons_mk (Below.trod laidOut (by kernel_rfl) (of_decide_eq_true (by kernel_rfl)) k3 bel lt3) trodAll_mk0)))), rfl, bel.frame _, fun h => by cases h⟩

theorem over : Rows.flowMostRow.holds Try.pinned (OpenSpec.ofChange Rows.flowMostSpec) :=
  OpenClaim.holds_of_wide 5 Try.f5 rfl rfl rfl rfl rfl rfl rfl ⟨rfl, rfl, rfl, rfl, rfl⟩ rfl rfl rfl rfl rfl (by kernel_rfl) Try.func5 (by kernel_rfl)
    (of_decide_eq_true (by kernel_rfl)) (by unfold Func.isWrapper; first | (rw [if_pos (by decide +kernel)]; kernel_rfl) | (rw [if_neg (by decide +kernel)]; exact ⟨rfl, rfl⟩))
    (fun os started H enc _ => lifted os started H enc)

theorem proved : Rows.FlowMostSaid := over
end Go.Proofs.Ytcbfgdiddhhhcaa.lawMostL
