/-
  The statement LexTotal is proved for every network, every two lists of numbers and all lists of lists of numbers: in whatever order sources come, all together have as much. No condition.
-/
import Derived.Deep.DeepCutAuto
import Derived.Test.YtdkciaglbipcpaaFirst7
import Derived.Test.YtdkciaglbipcpaaWays7
import Derived.Test.YtdkciaglbipcpaaTotal7
import Derived.Test.YtdkciaglbipcpaaOpen7
import Derived.Test.YtdkciaglbipcpaaFit
import Derived.Test.YtdkciaglbipcpaaOpen
import Derived.Test.YtdkciaglbipcpaaRows
namespace Go.Proofs.Ytdkciaglbipcpaa.lawLTotal
open Go.ChangeShapes Go.WideShapes Go.ChangeAt Go.RowKit Gm

set_option maxRecDepth 100000 in
set_option maxHeartbeats 8000000 in
theorem walk (v : Int) (a : Option Addr) (len cap : Nat) (es : List E) (ra : Option Addr) (rlen rcap : Nat) (raw : List Int) (ra2 : Option Addr) (rlen2 rcap2 : Nat) (raw2 : List Int) (ya : Option Addr) (yl yc : Nat) (yss : List (List Int)) (w : World) (h0 : I64 v ∧ NetAt w.heap.size w a len es ∧ Wide es) (h1 : FlowAt w.heap.size w ra rlen raw ∧ ∀ x ∈ raw, I64 x) (h1b : FlowAt w.heap.size w ra2 rlen2 raw2 ∧ ∀ x ∈ raw2, I64 x) (h2 : IntssAt w.heap.size w ya yl yss) :
    Calls Try.prog 8 #[netV v a len cap, .slice ra rlen rcap, .slice ra2 rlen2 rcap2, .slice ya yl yc] w fun e w' => e = .returned (.bool true) ∧ Below w.heap.size w w' := by
  obtain ⟨hv, hE, hW⟩ := h0
  obtain ⟨hR, hraw⟩ := h1
  obtain ⟨W0, hW0⟩ : ∃ W0, w.alloc (.cells #[.int .i64 v, .slice a len cap] 24) = W0 := ⟨_, rfl⟩
  have hB0 : Below w.heap.size w W0 := by rw [← hW0]; exact (Below.refl _ w).alloc (Nat.le_refl _) _
  have bN : Blk W0 w.heap.size 24 #[.int .i64 v, .slice a len cap] := by rw [← hW0]; exact Blk.new w _ _
  have HW0 := Lib.hid hW0
  have HV := Lib.hid hv
  have HE := Lib.hid hE
  have HWI := Lib.hid hW
  have HR := Lib.hid hR
  have HRAW := Lib.hid hraw
  have hN := fitN_bd v
  obtain ⟨n, hn⟩ : ∃ n : Nat, fitN v = n := ⟨(fitN v).toNat, by omega⟩
  rw [hn] at hN
  have HRT := Lib.hid (fit_right v es)
  rw [hn] at HRT
  have HNN := Lib.hid hn
  have HY := Lib.hid h2
  have HRb := Lib.hid h1b.1
  have HRAWb := Lib.hid h1b.2
  have hz0 := hB0.size
  clear h2 h1b hW0 hv hE hW hR hraw hn
  go_enter Try.func8, Try.ntmps8
  go_upto_region 3 with (first
    | (go_at_call 10; rw [HW0.out]; (with_reducible refine (awake7_any _).mono ?_); rintro e w1 ⟨rfl, hb1⟩
       have bN1 := bN.below hb1 bN.lt
       have hB1 : Below w.heap.size w w1 := hB0.trans (hb1.mono hz0)
       obtain ⟨lN1, n0, n1⟩ := bN1.two)
    | (go_at_call 14; (with_reducible refine (fit_any _ _ _ _ es _ ((HE.out.below hB1).more hB1.size) HV.out HWI.out).mono ?_); rintro e w2 ⟨a2, cap2, rfl, hE2, hb2⟩
       rw [HNN.out] at hE2 ⊢
       have hB2 : Below w.heap.size w w2 := hB1.trans (hb2.mono hB1.size)
       have lN2 : w2.heap.size < w2.heap.size + 1 := by omega))
  obtain ⟨F, hF⟩ : ∃ F, fitEs n es = F := ⟨_, rfl⟩
  rw [hF] at hE2 HRT ⊢
  obtain ⟨fl, hfl⟩ : ∃ fl, F.length = fl := ⟨_, rfl⟩
  rw [hfl] at hE2 ⊢
  have HFL := Lib.hid hfl
  have hflb : fl ≤ 256 := by rw [← hfl]; exact fes_len HRT.out
  obtain ⟨w3, hw3⟩ : ∃ W, w2.alloc (.cells #[.int .i64 (n : Int), .slice a2 fl cap2] 24) = W := ⟨_, rfl⟩
  have bM : Blk w3 w2.heap.size 24 #[.int .i64 (n : Int), .slice a2 fl cap2] := hw3 ▸ Blk.new w2 _ _
  have hB3 : Below w.heap.size w w3 := hw3 ▸ hB2.alloc hB2.size _
  have HE3 : Hid (NetAt w3.heap.size w3 a2 fl F) := Lib.hid (net_on hE2 (hw3 ▸ (Below.refl _ w2).alloc (Nat.le_refl _) _))
  have hz3 := hB3.size
  have HR3 := Lib.hid ((HR.out.below hB3).more hz3)
  have HR3b := Lib.hid ((HRb.out.below hB3).more hz3)
  have HY3 := Lib.hid ((HY.out.below hB3).more hz3)
  rw [hw3]
  obtain ⟨lM, m0, m1⟩ := bM.two
  clear hF hfl hw3 hE2 hb1 hb2 bN bN1 lN1 n0 n1 hB0 hB1 hB2 lN2 hz0
  go_upto_region 5 with (first
    | (go_at_call 15; (with_reducible refine (order_any n _ _ _ F _ _ _ raw _ HE3.out HR3.out HRAW.out (by omega)).mono ?_); rintro e w35 ⟨oa, oc, o, rfl, hO35, hoc, hperm, hb35⟩
       have bM35 := bM.below hb35 bM.lt
       obtain ⟨lM35, m350, m351⟩ := bM35.two
       have HE35 := Lib.hid (net_on HE3.out hb35)
       have HR35 := Lib.hid (flow_on HR3b.out hb35)
       have HY35 := Lib.hid ((HY3.out.below hb35).more hb35.size)
       have HO35 := Lib.hid hO35
       have hB35 := hB3.trans (hb35.mono hz3)
       have hz35 := hB35.size
       have HPERM := Lib.hid hperm
       have hol : o.length ≤ 256 := by have := order_len hperm; rw [HFL.out] at this; omega
       have HSRC := Lib.hid (order_src hperm)
       clear hO35 hb35 hperm m0 m1)
    | (go_at_call 15; (with_reducible refine (order_any n _ _ _ F _ _ _ raw2 _ HE35.out HR35.out HRAWb.out (by omega)).mono ?_); rintro e w4 ⟨oa2, oc2, o2, rfl, hO4, hoc2, hperm2, hb4⟩))
  have bM4 := bM35.below hb4 lM35
  obtain ⟨lM4, m40, m41⟩ := bM4.two
  have HE4 := Lib.hid (net_on HE35.out hb4)
  have HO4 := Lib.hid (flow_on HO35.out hb4)
  have HO42 := Lib.hid hO4
  have HY4 := Lib.hid ((HY35.out.below hb4).more hb4.size)
  have hB4 := hB35.trans (hb4.mono hz35)
  have hz4 := hB4.size
  have HPERM2 := Lib.hid hperm2
  have hol2 : o2.length ≤ 256 := by have := order_len hperm2; rw [HFL.out] at this; omega
  have HFO2 := Lib.hid (form_nil HRT.out hperm2)
  have HR2 := Lib.hid (fillF_form HFO2.out)
  have hcells : ∀ W, Below w4.heap.size w4 W → W.cell? ⟨w2.heap.size, 0, none⟩ = some (.int .i64 (n : Int)) ∧ W.cell? ⟨w2.heap.size, 1, none⟩ = some (.slice a2 fl cap2) := fun W h => (bM4.below h lM4).two.2
  have HCE := Lib.hid hcells
  clear hO4 hb4 hperm2 m350 m351 m40 m41 hcells bM bM35 lM35
  have hB := below_drew (Below.refl w4.heap.size w4)
  refine region_mix (fun W => Below w4.heap.size w4 W) (13) (.reads [0, 1, 2, 3, 4] (.only 5 (.only 6 (.reads [7, 8, 9, 10, 11, 12] (.only 13 (.stop)))))) (by kernel_rfl) (by kernel_rfl) (hB) ?_
  obtain ⟨wq, hwq⟩ : ∃ W, w4.drew = W := ⟨_, rfl⟩
  rw [hwq] at hB ⊢
  clear hwq
  repeat (
    refine plan_read rfl (fun K hK => ?_)
    first
      | (refine plan_neg ?_ ?_
         focus (go_simp; done)
         go_simp
         refine hK _ ?_
         clear hK K)
      | (apply plan_pos
         focus (go_simp; done)
         focus (
           intro W hW
           (first | obtain ⟨d0, d1⟩ := HCE.out W hW | skip)
           go_simp
           first
             | done
             | exact rfl)
         go_simp
         refine hK _ ?_
         clear hK K))
  refine plan_only rfl (fun Q hQ => ?_)
  go_wp2_with (go_at_call 16; (with_reducible refine (ways_any n _ _ _ F _ _ _ o _ _ _ yss _ (net_on HE4.out hB) (flow_on HO4.out hB) ((HY4.out.below hB).more hB.size) HRT.out HSRC.out hol).mono ?_); rintro e wd ⟨wa, wc, wss, rfl, hWW, hwl, hwok, hb⟩)
  replace hB := hB.trans (hb.mono hB.size)
  have HWW := Lib.hid hWW
  have HFO := Lib.hid (made_form HRT.out HPERM.out hwl (fun i hi => (hwok i hi).1))
  have HR1 := Lib.hid (fillF_form HFO.out)
  refine hQ _ _ (fun _ => hB) ?_
  clear hQ Q hb hWW hwl hwok
  refine plan_only rfl (fun Q hQ => ?_)
  go_wp2_with (go_at_call 11; (with_reducible refine (fill_any _ _ _ _ F 0 1 _ _ _ o _ _ _ wss _ (net_on HE4.out hB) (flow_on HO4.out hB) HWW.out).mono ?_); rw [HR1.out]; rintro e w5 ⟨pa, pl, pc, ga, gl, gc, he, hP5, hG5, hgc5, hb⟩
               dsimp only at he hP5 hG5
               subst he)
  obtain rfl : o.length = gl := by have := hG5.1; rw [gotF_len] at this; exact this
  have HP5 := Lib.hid hP5
  have HG5 := Lib.hid hG5
  replace hB := hB.trans (hb.mono hB.size)
  refine hQ _ _ (fun _ => hB) ?_
  clear hQ Q hb hP5 hG5 HWW
  repeat (
    refine plan_read rfl (fun K hK => ?_)
    first
      | (refine plan_neg ?_ ?_
         focus (go_simp; done)
         go_simp
         refine hK _ ?_
         clear hK K)
      | (apply plan_pos
         focus (go_simp; done)
         focus (
           intro W hW
           (first | obtain ⟨d0, d1⟩ := HCE.out W hW | skip)
           go_simp
           first
             | done
             | exact rfl)
         go_simp
         refine hK _ ?_
         clear hK K))
  refine plan_only rfl (fun Q hQ => ?_)
  go_wp2
  refine hQ _ _ (fun h => absurd h (by omega)) ?_
  clear hQ Q
  unfold Plan.wp
  have hB5 := hB4.trans (hB.mono hz4)
  have hz5 := hB5.size
  have bM5 := bM4.below hB lM4
  obtain ⟨lM5, m50, m51⟩ := bM5.two
  have HE5 := Lib.hid (net_on HE4.out hB)
  have HO5 := Lib.hid (flow_on HO4.out hB)
  have HO52 := Lib.hid (flow_on HO42.out hB)
  clear hB HCE
  go_wp2_with (go_at_call 11; (with_reducible refine (fill_any _ _ _ _ F 0 1 _ _ _ o2 _ _ _ [] _ HE5.out HO52.out (wayss_none _ _)).mono ?_); rw [HR2.out]; rintro e w6 ⟨qa, ql, qc, ha, hl, hc, he, hP6, hG6, hgc6, hb6⟩
               dsimp only at he hP6 hG6
               subst he
               obtain rfl : o2.length = hl := by have := hG6.1; rw [gotF_len] at this; exact this
               have HH6 := Lib.hid hG6
               have HG6 := Lib.hid (flow_on HG5.out hb6)
               have hB6 := hB5.trans (hb6.mono hz5)
               have hz6 := hB6.size
               clear hP6 hG6 hb6 m50 m51)
  have hsame := total_same HFO.out HFO2.out HPERM.out HPERM2.out
  have hbp := sumG_bd HFO.out
  have hbq := sumG_bd HFO2.out
  obtain ⟨P, hP⟩ : ∃ P, fillE n F 0 1 o wss = P := ⟨_, rfl⟩
  obtain ⟨Q', hQ'⟩ : ∃ Q', fillE n F 0 1 o2 [] = Q' := ⟨_, rfl⟩
  rw [hP] at HG6 hsame hbp
  rw [hQ'] at HH6 hsame hbq
  have HSAME := Lib.hid hsame
  have HBP := Lib.hid hbp
  have HBQ := Lib.hid hbq
  clear hP hQ' hsame hbp hbq
  go_loopw [19, 20] (fun sv kv wr => ∃ i : Nat, i ≤ o.length ∧ kv = .int .i64 i ∧ sv = .int .i64 (sumG P o i) ∧ w6 = wr) (fun _ kv _ => o.length - (intOf kv).toNat)
  case atStart => exact ⟨0, Nat.zero_le _, rfl, rfl, rfl⟩
  case round =>
    obtain ⟨i, hi, rfl, rfl, rfl⟩ := hrel
    by_cases hlt : i < o.length
    · have hii : (i : Int) < (o.length : Int) := by omega
      obtain ⟨gb, go, hga, hgc⟩ := HG6.out.2.2.int
      obtain ⟨hgb, cg⟩ := hgc i (by rw [gotF_len]; exact hlt)
      obtain rfl : ga = some ⟨gb, go, none⟩ := by
        rcases hga with h | h
        · rw [gotF_len] at h; omega
        · exact h
      rw [got_at _ _ hlt] at cg
      have b1 := HBP.out i hi
      have b2 := HBP.out (i + 1) hlt
      have e1 : sumG P o (i + 1) = sumG P o i + fa P (o[i]?.getD 0).toNat := rfl
      obtain ⟨y, hy⟩ : ∃ y, fa P (o[i]?.getD 0).toNat = y := ⟨_, rfl⟩
      rw [hy] at cg e1
      obtain ⟨A, hA⟩ : ∃ A, sumG P o i = A := ⟨_, rfl⟩
      rw [hA] at b1 e1 ⊢
      have HA := Lib.hid e1
      have u1 : -1000000 ≤ A + y := by omega
      have u2 : A + y ≤ 1000000 := by omega
      have hw1 : IntKind.i64.wrap (A + y) = A + y := IntWalk.i64_in _ (by omega)
      clear hga hgc b1 b2 e1 hy hA
      go_wp2
      go_roundw
      case rel => exact ⟨i + 1, by omega, by go_num, by rw [HA.out], trivial⟩
      case measure => simp [intOf]; omega
    · obtain rfl : i = o.length := by omega
      obtain ⟨T, hT⟩ : ∃ T, sumG P o o.length = T := ⟨_, rfl⟩
      have hbT := HBP.out o.length (Nat.le_refl _)
      rw [hT] at hbT ⊢
      obtain ⟨hbT0, hbT1⟩ := hbT
      have HT := Lib.hid hT
      clear hT hlt
      go_wp2
      go_loopw [19, 21] (fun sv kv wr => ∃ i : Nat, i ≤ o2.length ∧ kv = .int .i64 i ∧ sv = .int .i64 (T - sumG Q' o2 i) ∧ w6 = wr) (fun _ kv _ => o2.length - (intOf kv).toNat)
      case atStart => exact ⟨0, Nat.zero_le _, rfl, by simp [sumG], rfl⟩
      case round =>
        obtain ⟨i, hi, rfl, rfl, rfl⟩ := hrel
        by_cases hlt : i < o2.length
        · have hii : (i : Int) < (o2.length : Int) := by omega
          obtain ⟨gb, go, hga, hgc⟩ := HH6.out.2.2.int
          obtain ⟨hgb, cg⟩ := hgc i (by rw [gotF_len]; exact hlt)
          obtain rfl : ha = some ⟨gb, go, none⟩ := by
            rcases hga with h | h
            · rw [gotF_len] at h; omega
            · exact h
          rw [got_at _ _ hlt] at cg
          have b1 := HBQ.out i hi
          have b2 := HBQ.out (i + 1) hlt
          have e1 : sumG Q' o2 (i + 1) = sumG Q' o2 i + fa Q' (o2[i]?.getD 0).toNat := rfl
          obtain ⟨y, hy⟩ : ∃ y, fa Q' (o2[i]?.getD 0).toNat = y := ⟨_, rfl⟩
          rw [hy] at cg e1
          obtain ⟨A, hA⟩ : ∃ A, T - sumG Q' o2 i = A := ⟨_, rfl⟩
          have HA : Hid (T - sumG Q' o2 (i + 1) = A - y) := Lib.hid (by omega)
          rw [hA]
          have u1 : -1000000 ≤ A - y := by omega
          have u2 : A - y ≤ 1000000 := by omega
          have hw1 : IntKind.i64.wrap (A - y) = A - y := IntWalk.i64_in _ (by omega)
          clear hga hgc b1 b2 e1 hy hA
          go_wp2
          go_roundw
          case rel => exact ⟨i + 1, by omega, by go_num, by rw [HA.out], trivial⟩
          case measure => simp [intOf]; omega
        · obtain rfl : i = o2.length := by omega
          have hz : T - sumG Q' o2 o2.length = 0 := by have := HSAME.out; have := HT.out; omega
          rw [hz]
          have t1 : ((o.length : Int) == (o.length : Int)) = true := by simp
          have t2 : ((o2.length : Int) == (o2.length : Int)) = true := by simp
          clear hz hlt
          go_wp2
          go_ret
          exact ⟨rfl, hB6⟩

theorem own : ownKnob Try.prog.godebug = none := by kernel_rfl
theorem laidOut : laidOutB Try.prog = true := by kernel_rfl

set_option maxRecDepth 100000 in
theorem lifted (os : Os) (started : os.Started) (H : Type) (enc : TypeId × Value → H) :
    ReturnsInHanded {} Try.checked os 8 .any (Rows.lexTotalSpec.pre6 enc Try.prog Try.f8 Rows.lexTotalRow.domain false) (Rows.lexTotalSpec.post enc Try.prog Try.f8 false true false false) := by
  refine returnsInHanded_of_change_sized (C := Try.checked) own started (by kernel_rfl) Try.func8
    (ChangeSpec.witness6 (enc := enc) (C := Try.checked) false ⟨#[], #[.agg #[.int .i64 0, .slice none 0 0], .slice none 0 0, .slice none 0 0, .slice none 0 0], []⟩ 8 (by kernel_rfl) (by kernel_rfl) (by kernel_rfl) (by kernel_rfl)) ?_
  intro W base args ds gs before hval0 hW _ hsz0 _
  have hsz : (DataW.weightsEach Try.prog (Try.f8.params.toList ++ Rows.lexTotalSpec.plain.varTypes Try.prog) (ds ++ gs)).all (· ≤ reachBytes) = true := hsz0
  have hval : ∀ (j : Nat) t v, Try.f8.params[j]? = some t → args[j]? = some v → Value.okWide Try.prog W .any base t v := hval0
  have hW' := hW
  obtain ⟨p, q, hA0, hV, rfl, hfz, hnd⟩ := hW
  have hA : DataW.TrodAll enc Try.prog W 0 (fun _ => true) true Try.f8.params.toList args.toList ds p := hA0
  rw [Try.params8] at hA hval hsz
  obtain ⟨v0, vs0, d0, ds0, p0, q0, hargs, rfl, rfl, h0, r0⟩ := trodAll_cons hA
  obtain ⟨v1, vs1, d1, ds1, p1, q1, rfl, rfl, rfl, h1, r1⟩ := trodAll_cons r0
  obtain ⟨v2, vs2, d2, ds2, p2, q2, rfl, rfl, rfl, h2, r2⟩ := trodAll_cons r1
  obtain ⟨v3, vs3, d3, ds3, p3, q3, rfl, rfl, rfl, h3, r3⟩ := trodAll_cons r2
  obtain ⟨rfl, rfl, rfl⟩ := trodAll_nil r3
  obtain rfl : args = #[v0, v1, v2, v3] := by cases args; simp_all
  obtain ⟨rfl, rfl⟩ := trodVars_none hV
  have k0 := h0
  have lt0 : ∀ x ∈ p0, x.block < W.heap.size := by obtain ⟨m, hm⟩ := k0; exact DataW.trod_lt m _ _ _ hm
  have k1 := h1
  have lt1 : ∀ x ∈ p1, x.block < W.heap.size := by obtain ⟨m, hm⟩ := k1; exact DataW.trod_lt m _ _ _ hm
  have k2 := h2
  have lt2 : ∀ x ∈ p2, x.block < W.heap.size := by obtain ⟨m, hm⟩ := k2; exact DataW.trod_lt m _ _ _ hm
  have k3 := h3
  have lt3 : ∀ x ∈ p3, x.block < W.heap.size := by obtain ⟨m, hm⟩ := k3; exact DataW.trod_lt m _ _ _ hm
  obtain ⟨n0, a0, len0, cap0, es0, rfl, b0⟩ := net_of (hval 0 24 v0 rfl rfl) k0 (weights_at hsz (j := 0) (t := 24) rfl rfl)
  obtain ⟨a1, len1, cap1, rfl⟩ := okWide_slice Try.underlying25 (hval 1 25 v1 rfl rfl)
  obtain ⟨z1, b1⟩ := ints_of k1 (weights_at hsz (j := 1) (t := 25) rfl rfl)
  obtain ⟨a2, len2, cap2, rfl⟩ := okWide_slice Try.underlying25 (hval 2 25 v2 rfl rfl)
  obtain ⟨z2, b2⟩ := ints_of k2 (weights_at hsz (j := 2) (t := 25) rfl rfl)
  obtain ⟨a3, len3, cap3, rfl⟩ := okWide_slice Try.underlying33 (hval 3 33 v3 rfl rfl)
  obtain ⟨z3, b3⟩ := intss_of k3 (weights_at hsz (j := 3) (t := 33) rfl rfl)
  clear hA0 hval0 hsz0 hsz
  refine (walk n0 a0 len0 cap0 es0 a1 len1 cap1 z1 a2 len2 cap2 z2 a3 len3 cap3 z3 W b0 b1 b2 b3).mono fun e W' ⟨he, bel⟩ => ?_
  subst he
  exact ⟨_, rfl, _, _, _, [], _, [], hW', trodAll_mk1 (shut_bool Try.underlying4 _), (trodAll_cons_mk (Below.trod laidOut (by kernel_rfl) (of_decide_eq_true (by kernel_rfl)) k0 bel lt0) (trodAll_cons_mk (Below.trod laidOut (by kernel_rfl) (of_decide_eq_true (by kernel_rfl)) k1 bel lt1) (trodAll_cons_mk (Below.trod laidOut (by kernel_rfl) (of_decide_eq_true (by kernel_rfl)) k2 bel lt2) (trodAll_cons_mk (Below.trod laidOut (by kernel_rfl) (of_decide_eq_true (by kernel_rfl)) k3 bel lt3) trodAll_mk0)))), rfl, bel.frame _, fun h => by cases h⟩

theorem over : Rows.lexTotalRow.holds Try.pinned (OpenSpec.ofChange Rows.lexTotalSpec) :=
  OpenClaim.holds_of_wide 8 Try.f8 rfl rfl rfl rfl rfl rfl rfl ⟨rfl, rfl, rfl, rfl, rfl⟩ rfl rfl rfl rfl rfl (by kernel_rfl) Try.func8 (by kernel_rfl)
    (of_decide_eq_true (by kernel_rfl)) (by unfold Func.isWrapper; first | (rw [if_pos (by decide +kernel)]; kernel_rfl) | (rw [if_neg (by decide +kernel)]; exact ⟨rfl, rfl⟩))
    (fun os started H enc _ => lifted os started H enc)

theorem proved : Rows.LexTotalSaid := over
end Go.Proofs.Ytdkciaglbipcpaa.lawLTotal
