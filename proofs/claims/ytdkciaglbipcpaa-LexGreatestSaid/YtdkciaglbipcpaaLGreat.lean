/-
  The statement LexGreatest is proved for every network, every list of numbers and all lists of lists of numbers: for each source as much flows through it and those ahead of it together as can where these alone are open. No condition.
-/
import Derived.Deep.DeepCutAuto
import Derived.Test.YtdkciaglbipcpaaFirst7
import Derived.Test.YtdkciaglbipcpaaWays7
import Derived.Test.YtdkciaglbipcpaaOpen7
import Derived.Test.YtdkciaglbipcpaaFit
import Derived.Test.YtdkciaglbipcpaaOpen
import Derived.Test.YtdkciaglbipcpaaRef3
import Derived.Test.YtdkciaglbipcpaaQmax
import Derived.Test.YtdkciaglbipcpaaRows
namespace Go.Proofs.Ytdkciaglbipcpaa.lawLGreat
open Go.ChangeShapes Go.WideShapes Go.ChangeAt Go.RowKit Gm

set_option maxRecDepth 100000 in
set_option maxHeartbeats 8000000 in
theorem walk (v : Int) (a : Option Addr) (len cap : Nat) (es : List E) (ra : Option Addr) (rlen rcap : Nat) (raw : List Int) (ya : Option Addr) (yl yc : Nat) (yss : List (List Int)) (w : World) (h0 : I64 v ∧ NetAt w.heap.size w a len es ∧ Wide es) (h1 : FlowAt w.heap.size w ra rlen raw ∧ ∀ x ∈ raw, I64 x) (h2 : IntssAt w.heap.size w ya yl yss) :
    Calls Try.prog 5 #[netV v a len cap, .slice ra rlen rcap, .slice ya yl yc] w fun e w' => e = .returned (.bool true) ∧ Below w.heap.size w w' := by
  obtain ⟨hv, hE, hW⟩ := h0
  obtain ⟨hR, hraw⟩ := h1
  obtain ⟨W0, hW0⟩ : ∃ W0, w.alloc (.cells #[.int .i64 v, .slice a len cap] 24) = W0 := ⟨_, rfl⟩
  have hB0 : Below w.heap.size w W0 := by rw [← hW0]; exact (Below.refl _ w).alloc (Nat.le_refl _) _
  have bN : Blk W0 w.heap.size 24 #[.int .i64 v, .slice a len cap] := by rw [← hW0]; exact Blk.new w _ _
  have HW0 := Lib.hid hW0
  have HV := Lib.hid hv
  have HE := Lib.hid hE
  have HWI := Lib.hid hW
  have HR := Lib.hid hR
  have HRAW := Lib.hid hraw
  have hN := fitN_bd v
  obtain ⟨n, hn⟩ : ∃ n : Nat, fitN v = n := ⟨(fitN v).toNat, by omega⟩
  rw [hn] at hN
  have HRT := Lib.hid (fit_right v es)
  rw [hn] at HRT
  have HNN := Lib.hid hn
  have HY := Lib.hid h2
  have hz0 := hB0.size
  clear h2 hW0 hv hE hW hR hraw hn
  go_enter Try.func5, Try.ntmps5
  go_upto_region 3 with (first
    | (go_at_call 10; rw [HW0.out]; (with_reducible refine (awake7_any _).mono ?_); rintro e w1 ⟨rfl, hb1⟩
       have bN1 := bN.below hb1 bN.lt
       have hB1 : Below w.heap.size w w1 := hB0.trans (hb1.mono hz0)
       obtain ⟨lN1, n0, n1⟩ := bN1.two)
    | (go_at_call 14; (with_reducible refine (fit_any _ _ _ _ es _ ((HE.out.below hB1).more hB1.size) HV.out HWI.out).mono ?_); rintro e w2 ⟨a2, cap2, rfl, hE2, hb2⟩
       rw [HNN.out] at hE2 ⊢
       have hB2 : Below w.heap.size w w2 := hB1.trans (hb2.mono hB1.size)
       have lN2 : w2.heap.size < w2.heap.size + 1 := by omega))
  obtain ⟨F, hF⟩ : ∃ F, fitEs n es = F := ⟨_, rfl⟩
  rw [hF] at hE2 HRT ⊢
  obtain ⟨fl, hfl⟩ : ∃ fl, F.length = fl := ⟨_, rfl⟩
  rw [hfl] at hE2 ⊢
  have HFL := Lib.hid hfl
  have hflb : fl ≤ 256 := by rw [← hfl]; exact fes_len HRT.out
  obtain ⟨w3, hw3⟩ : ∃ W, w2.alloc (.cells #[.int .i64 (n : Int), .slice a2 fl cap2] 24) = W := ⟨_, rfl⟩
  have bM : Blk w3 w2.heap.size 24 #[.int .i64 (n : Int), .slice a2 fl cap2] := hw3 ▸ Blk.new w2 _ _
  have hB3 : Below w.heap.size w w3 := hw3 ▸ hB2.alloc hB2.size _
  have HE3 : Hid (NetAt w3.heap.size w3 a2 fl F) := Lib.hid (net_on hE2 (hw3 ▸ (Below.refl _ w2).alloc (Nat.le_refl _) _))
  have hz3 := hB3.size
  have HR3 := Lib.hid ((HR.out.below hB3).more hz3)
  have HY3 := Lib.hid ((HY.out.below hB3).more hz3)
  rw [hw3]
  obtain ⟨lM, m0, m1⟩ := bM.two
  clear hF hfl hw3 hE2 hb1 hb2 bN bN1 lN1 n0 n1 hB0 hB1 hB2 lN2 hz0
  go_upto_region 4 with (go_at_call 15; (with_reducible refine (order_any n _ _ _ F _ _ _ raw _ HE3.out HR3.out HRAW.out (by omega)).mono ?_); rintro e w4 ⟨oa, oc, o, rfl, hO4, hoc, hperm, hb4⟩)
  have bM4 := bM.below hb4 bM.lt
  obtain ⟨lM4, m40, m41⟩ := bM4.two
  have HE4 := Lib.hid (net_on HE3.out hb4)
  have HO4 := Lib.hid hO4
  have HY4 := Lib.hid ((HY3.out.below hb4).more hb4.size)
  have hB4 := hB3.trans (hb4.mono hz3)
  have hz4 := hB4.size
  have HPERM := Lib.hid hperm
  have hol : o.length ≤ 256 := by have := order_len hperm; rw [HFL.out] at this; omega
  have HSRC := Lib.hid (order_src hperm)
  have hcells : ∀ W, Below w4.heap.size w4 W → W.cell? ⟨w2.heap.size, 0, none⟩ = some (.int .i64 (n : Int)) ∧ W.cell? ⟨w2.heap.size, 1, none⟩ = some (.slice a2 fl cap2) := fun W h => (bM4.below h lM4).two.2
  have HCE := Lib.hid hcells
  clear hO4 hb4 hperm m0 m1 m40 m41 hcells bM
  have hB := below_drew (Below.refl w4.heap.size w4)
  refine region_mix (fun W => Below w4.heap.size w4 W) (13) (.reads [0, 1, 2, 3, 4] (.only 5 (.only 6 (.reads [7, 8, 9, 10, 11, 12] (.only 13 (.stop)))))) (by kernel_rfl) (by kernel_rfl) (hB) ?_
  obtain ⟨wq, hwq⟩ : ∃ W, w4.drew = W := ⟨_, rfl⟩
  rw [hwq] at hB ⊢
  clear hwq
  repeat (
    refine plan_read rfl (fun K hK => ?_)
    first
      | (refine plan_neg ?_ ?_
         focus (go_simp; done)
         go_simp
         refine hK _ ?_
         clear hK K)
      | (apply plan_pos
         focus (go_simp; done)
         focus (
           intro W hW
           (first | obtain ⟨d0, d1⟩ := HCE.out W hW | skip)
           go_simp
           first
             | done
             | exact rfl)
         go_simp
         refine hK _ ?_
         clear hK K))
  refine plan_only rfl (fun Q hQ => ?_)
  go_wp2_with (go_at_call 16; (with_reducible refine (ways_any n _ _ _ F _ _ _ o _ _ _ yss _ (net_on HE4.out hB) (flow_on HO4.out hB) ((HY4.out.below hB).more hB.size) HRT.out HSRC.out hol).mono ?_); rintro e wd ⟨wa, wc, wss, rfl, hWW, hwl, hwok, hb⟩)
  replace hB := hB.trans (hb.mono hB.size)
  have HWW := Lib.hid hWW
  have HFO := Lib.hid (made_form HRT.out HPERM.out hwl (fun i hi => (hwok i hi).1))
  have HR1 := Lib.hid (fillF_form HFO.out)
  refine hQ _ _ (fun _ => hB) ?_
  clear hQ Q hb hWW hwl hwok
  refine plan_only rfl (fun Q hQ => ?_)
  go_wp2_with (go_at_call 11; (with_reducible refine (fill_any _ _ _ _ F 0 1 _ _ _ o _ _ _ wss _ (net_on HE4.out hB) (flow_on HO4.out hB) HWW.out).mono ?_); rw [HR1.out]; rintro e w5 ⟨pa, pl, pc, ga, gl, gc, he, hP5, hG5, hgc5, hb⟩
               dsimp only at he hP5 hG5
               subst he)
  obtain rfl : o.length = gl := by have := hG5.1; rw [gotF_len] at this; exact this
  have HP5 := Lib.hid hP5
  have HG5 := Lib.hid hG5
  replace hB := hB.trans (hb.mono hB.size)
  refine hQ _ _ (fun _ => hB) ?_
  clear hQ Q hb hP5 hG5 HWW
  repeat (
    refine plan_read rfl (fun K hK => ?_)
    first
      | (refine plan_neg ?_ ?_
         focus (go_simp; done)
         go_simp
         refine hK _ ?_
         clear hK K)
      | (apply plan_pos
         focus (go_simp; done)
         focus (
           intro W hW
           (first | obtain ⟨d0, d1⟩ := HCE.out W hW | skip)
           go_simp
           first
             | done
             | exact rfl)
         go_simp
         refine hK _ ?_
         clear hK K))
  refine plan_only rfl (fun Q hQ => ?_)
  go_wp2
  refine hQ _ _ (fun h => absurd h (by omega)) ?_
  clear hQ Q
  unfold Plan.wp
  have hB5 := hB4.trans (hB.mono hz4)
  have hz5 := hB5.size
  have bM5 := bM4.below hB lM4
  obtain ⟨lM5, m50, m51⟩ := bM5.two
  have HE5 := Lib.hid (net_on HE4.out hB)
  have HO5 := Lib.hid (flow_on HO4.out hB)
  obtain ⟨P, hP⟩ : ∃ P, fillE n F 0 1 o wss = P := ⟨_, rfl⟩
  rw [hP] at HP5 HG5
  have hgoodP := (fill_stage HFO.out o.length (Nat.le_refl _)).1.good.whole HFO.out.net
  have HGD : Hid (good n F P 0 1 = true) := Lib.hid (by rw [← hP]; exact goodG_iff.2 hgoodP)
  have HBP : Hid (∀ k, k ≤ o.length → 0 ≤ sumG P o k ∧ sumG P o k ≤ 1000 * k) := Lib.hid (by rw [← hP]; exact sumG_bd HFO.out)
  have HMO : Hid (∀ k, k < o.length → Most n (opened F 0 (o.take (k + 1))) 0 1 (sumG P o (k + 1))) := Lib.hid (fun k hk => by rw [← hP]; exact sumG_most HFO.out hk)
  have hplf : fl = pl := by
    have h1 := HP5.out.1
    have h2 : (fillE n F 0 1 o wss).length = F.length := hgoodP.len
    rw [← hP, h2, HFL.out] at h1
    exact h1
  subst hplf
  have HPL : Hid (P.length = fl) := Lib.hid HP5.out.1
  have t1 : ((o.length : Int) != (o.length : Int)) = false := by simp
  clear hP hgoodP HCE hB
  go_wp2_with (go_at_call 17; (with_reducible refine (qgood_any _ _ _ _ F _ _ _ P 0 1 _ HE5.out HP5.out).mono ?_); rw [HGD.out]; rintro e w6 ⟨rfl, hb6⟩)
  clear t1
  have hB6 := hB5.trans (hb6.mono hz5)
  have hz6 := hB6.size
  have bM6 := bM5.below hb6 lM5
  have HE6 := Lib.hid (net_on HE5.out hb6)
  have HO6 := Lib.hid (flow_on HO5.out hb6)
  have HP6 := Lib.hid (flow_on HP5.out hb6)
  have HG6 := Lib.hid (flow_on HG5.out hb6)
  clear hb6 m50 m51
  go_loopw [13, 14] (fun sv kv wr => ∃ i : Nat, i ≤ o.length ∧ kv = .int .i64 i ∧ sv = .int .i64 (sumG P o i) ∧ Below w6.heap.size w6 wr) (fun _ kv _ => o.length - (intOf kv).toNat)
  case atStart => exact ⟨0, Nat.zero_le _, rfl, rfl, Below.refl _ _⟩
  case round =>
    obtain ⟨i, hi, rfl, rfl, hb⟩ := hrel
    obtain ⟨w7, rfl⟩ : ∃ w', w' = wr := ⟨_, rfl⟩
    have hz7 := hb.size
    by_cases hlt : i < o.length
    · have hii : (i : Int) < (o.length : Int) := by omega
      obtain ⟨ob, oo, hoa, hoc2⟩ := (HO6.out.below hb).2.2.int
      obtain ⟨hob, co⟩ := hoc2 i hlt
      obtain rfl : oa = some ⟨ob, oo, none⟩ := by
        rcases hoa with h | h
        · omega
        · exact h
      obtain ⟨gb, go, hga, hgc⟩ := (HG6.out.below hb).2.2.int
      obtain ⟨hgb, cg⟩ := hgc i (by rw [gotF_len]; exact hlt)
      obtain rfl : ga = some ⟨gb, go, none⟩ := by
        rcases hga with h | h
        · rw [gotF_len] at h; omega
        · exact h
      rw [got_at _ _ hlt] at cg
      have hsx := isSrc_iff.1 (HSRC.out _ (List.getElem_mem hlt))
      have hox : o[i]?.getD 0 = o[i] := by rw [List.getElem?_eq_getElem hlt]; rfl
      obtain ⟨m, hm⟩ : ∃ m : Nat, o[i] = (m : Int) := ⟨o[i].toNat, by omega⟩
      rw [hm] at hsx hox
      rw [hox] at co cg
      rw [Int.toNat_natCast] at cg
      have hmfl : m < fl := by have := hsx.2.1; have := HFL.out; omega
      obtain ⟨fb, fo, hfa, hfc⟩ := (HP6.out.below hb).2.2.int
      obtain ⟨hfb, cf⟩ := hfc m (by rw [HPL.out]; exact hmfl)
      obtain rfl : pa = some ⟨fb, fo, none⟩ := by
        rcases hfa with h | h
        · have := HPL.out; omega
        · exact h
      have cf' : w7.cell? ⟨fb, fo + m, none⟩ = some (.int .i64 (fa P m)) := cf
      have b1 := HBP.out i hi
      have b2 := HBP.out (i + 1) hlt
      have e1 : sumG P o (i + 1) = sumG P o i + fa P m := by
        show sumG P o i + fa P (o[i]?.getD 0).toNat = _
        rw [hox, Int.toNat_natCast]
      obtain ⟨y, hy⟩ : ∃ y, fa P m = y := ⟨_, rfl⟩
      rw [hy] at cg cf' e1
      obtain ⟨A, hA⟩ : ∃ A, sumG P o i = A := ⟨_, rfl⟩
      obtain ⟨A2, hA2⟩ : ∃ A2, sumG P o (i + 1) = A2 := ⟨_, rfl⟩
      rw [hA] at b1 e1
      rw [hA2] at b2 e1
      have HA2 := Lib.hid hA2
      have hmost := HMO.out i hlt
      rw [hA2] at hmost
      obtain ⟨R, hR, hG, hgain, hmost2, _, _, _⟩ := maxF_good (n := n) (es := opened F 0 (o.take (i + 1))) (right_open HRT.out _) HFO.out.s0 HFO.out.s1 HFO.out.t0 HFO.out.t1 HFO.out.ne
      have hRm : R.2 = A2 := by
        have h1 := most_same hmost2 hmost (fun _ => rfl)
        omega
      have HMAX : Hid (maxF n (opened F 0 (o.take (i + 1))) 0 1 = (R.1, A2, 0)) := Lib.hid (by rw [hR, hRm])
      have hopl : (opened F 0 (o.take (i + 1))).length = fl := by rw [opened_length, HFL.out]
      have HOPL := Lib.hid hopl
      rw [hA]
      have t2 : (y != y) = false := by simp
      have t3 : (A2 != A2) = false := by simp
      have hw1 : IntKind.i64.wrap (A + y) = A2 := by rw [← e1]; exact IntWalk.i64_in _ (by omega)
      have hwk : IntKind.i64.wrap ((i : Int) + 1) = (i : Int) + 1 := IntWalk.i64_in _ (by omega)
      have hct := cut_to (some ⟨ob, oo, none⟩) o.length oc (i + 1) (by omega)
      have hct2 : ∀ w, (Instr.slice 25 (.slice (some ⟨ob, oo, none⟩) o.length oc) none (some (.int .i64 ((i : Int) + 1))) none).run Try.prog w = .ok (.slice (some ⟨ob, oo, none⟩) (i + 1) oc) w := fun w => by
        have := hct w
        rwa [show (((i + 1 : Nat) : Int)) = (i : Int) + 1 by omega] at this
      have bM7 := bM6.below hb bM6.lt
      have hcells : ∀ W, Below w7.heap.size w7 W → W.cell? ⟨w2.heap.size, 0, none⟩ = some (.int .i64 (n : Int)) ∧ W.cell? ⟨w2.heap.size, 1, none⟩ = some (.slice a2 fl cap2) := fun W h => (bM7.below h bM7.lt).two.2
      have HCE7 := Lib.hid hcells
      have HE7 := Lib.hid (net_on HE6.out hb)
      have HO7 := Lib.hid (flow_on HO6.out hb)
      have hmI : (m : Int) < (fl : Int) := by omega
      have hob7 : ob < w7.heap.size := by omega
      have hgb7 : gb < w7.heap.size := by omega
      have hfb7 : fb < w7.heap.size := by omega
      have hcells2 : ∀ W, Below w7.heap.size w7 W → W.cell? ⟨gb, go + i, none⟩ = some (.int .i64 y) ∧ W.cell? ⟨ob, oo + i, none⟩ = some (.int .i64 (m : Int)) ∧ W.cell? ⟨fb, fo + m, none⟩ = some (.int .i64 y) := fun W h => ⟨(h.cell (p := ⟨gb, go + i, none⟩) hgb7).trans cg, (h.cell (p := ⟨ob, oo + i, none⟩) hob7).trans co, (h.cell (p := ⟨fb, fo + m, none⟩) hfb7).trans cf'⟩
      have HCE8 := Lib.hid hcells2
      clear hoa hoc2 hga hgc hsx hox hm hfa hfc cf cf' co cg b1 e1 hy hA hA2 hmost hR hG hgain hmost2 hRm hopl hct hcells hcells2
      go_upto_region 11 with fail
      have hB := below_drew (Below.refl w7.heap.size w7)
      refine region_mix (fun W => Below w7.heap.size w7 W) (11) (.reads [0, 1, 2, 3, 4, 5, 6, 7, 8, 9, 10] (.only 11 (.stop))) (by kernel_rfl) (by kernel_rfl) (hB) ?_
      obtain ⟨wq, hwq⟩ : ∃ W, w7.drew = W := ⟨_, rfl⟩
      rw [hwq] at hB ⊢
      clear hwq
      repeat (
        refine plan_read rfl (fun K hK => ?_)
        first
          | (refine plan_neg ?_ ?_
             focus (go_simp; done)
             go_simp
             refine hK _ ?_
             clear hK K)
          | (apply plan_pos
             focus (go_simp; done)
             focus (
               intro W hW
               (first | obtain ⟨d0, d1, d2⟩ := HCE8.out W hW | skip)
               go_simp
               first
                 | done
                 | exact rfl)
             go_simp
             refine hK _ ?_
             clear hK K))
      refine plan_only rfl (fun Q hQ => ?_)
      go_wp2
      refine hQ _ _ (fun h => absurd h (by omega)) ?_
      clear hQ Q
      unfold Plan.wp
      obtain ⟨k0, k1, k2⟩ := HCE8.out _ hB
      have HCE9 : Hid (∀ W, Below wq.heap.size wq W → W.cell? ⟨w2.heap.size, 0, none⟩ = some (.int .i64 (n : Int)) ∧ W.cell? ⟨w2.heap.size, 1, none⟩ = some (.slice a2 fl cap2)) := Lib.hid (fun W h => HCE7.out W (on_below hB h))
      have HE9 := Lib.hid (net_on HE7.out hB)
      have HO9 := Lib.hid (flow_on HO7.out hB)
      have HB9 := Lib.hid (on_below hb hB)
      have hgq : gb < wq.heap.size := Nat.lt_of_lt_of_le hgb7 hB.size
      clear hB HCE7 HCE8 HE7 HO7
      go_upto_region 14 with fail
      clear k0 k1 k2 hw1
      have hB := below_drew (Below.refl wq.heap.size wq)
      refine region_mix (fun W => Below wq.heap.size wq W) (13) (.reads [0, 1, 2, 3, 4] (.only 5 (.only 6 (.reads [7, 8, 9, 10, 11, 12] (.only 13 (.stop)))))) (by kernel_rfl) (by kernel_rfl) (hB) ?_
      obtain ⟨wr, hwr⟩ : ∃ W, wq.drew = W := ⟨_, rfl⟩
      rw [hwr] at hB ⊢
      clear hwr
      repeat (
        refine plan_read rfl (fun K hK => ?_)
        first
          | (refine plan_neg ?_ ?_
             focus (go_simp; done)
             go_simp
             refine hK _ ?_
             clear hK K)
          | (apply plan_pos
             focus (go_simp; done)
             focus (
               intro W hW
               (first | obtain ⟨d0, d1⟩ := HCE9.out W hW | skip)
               go_simp
               first
                 | done
                 | exact rfl)
             go_simp
             refine hK _ ?_
             clear hK K))
      refine plan_only rfl (fun Q hQ => ?_)
      go_wp2_with (go_at_call 19; (with_reducible refine (qopen_any _ _ _ _ F _ _ _ _ (o.take (i + 1)) _ (net_on HE9.out hB) (flow_take (flow_on HO9.out hB) (by omega)) (by omega) (by omega)).mono ?_); rintro e w8 ⟨a8, cap8, rfl, hE8, _, hb8⟩)
      have HE8 := Lib.hid hE8
      replace hB := hB.trans (hb8.mono hB.size)
      refine hQ _ _ (fun _ => hB) ?_
      clear hQ Q hE8 hb8
      refine plan_only rfl (fun Q hQ => ?_)
      go_wp2_with (go_at_call 18; (with_reducible refine (qmax_any _ _ _ _ (opened F 0 (o.take (i + 1))) 0 1 _ HE8.out).mono ?_); rw [HMAX.out]; rintro e w9 ⟨a9, l9, c9, he, hF9, hb9⟩
                   dsimp only at he hF9
                   subst he)
      replace hB := hB.trans (hb9.mono hB.size)
      refine hQ _ _ (fun _ => hB) ?_
      clear hQ Q hF9 hb9 HE8
      repeat (
        refine plan_read rfl (fun K hK => ?_)
        first
          | (refine plan_neg ?_ ?_
             focus (go_simp; done)
             go_simp
             refine hK _ ?_
             clear hK K)
          | (apply plan_pos
             focus (go_simp; done)
             focus (
               intro W hW
               (first | obtain ⟨d0, d1⟩ := HCE9.out W hW | skip)
               go_simp
               first
                 | done
                 | exact rfl)
             go_simp
             refine hK _ ?_
             clear hK K))
      refine plan_only rfl (fun Q hQ => ?_)
      go_wp2
      refine hQ _ _ (fun h => absurd h (by omega)) ?_
      clear hQ Q
      unfold Plan.wp
      clear hct2 hwk t2
      go_wp2
      go_roundw
      case rel => exact ⟨i + 1, by omega, by go_num, by rw [HA2.out], on_below HB9.out hB⟩
      case measure => simp [intOf]; omega
    · obtain rfl : i = o.length := by omega
      go_wp2
      go_ret
      exact ⟨rfl, hB6.trans (hb.mono hz6)⟩

theorem own : ownKnob Try.prog.godebug = none := by kernel_rfl
theorem laidOut : laidOutB Try.prog = true := by kernel_rfl

set_option maxRecDepth 100000 in
theorem lifted (os : Os) (started : os.Started) (H : Type) (enc : TypeId × Value → H) :
    ReturnsInHanded {} Try.checked os 5 .any (Rows.lexGreatestSpec.pre6 enc Try.prog Try.f5 Rows.lexGreatestRow.domain false) (Rows.lexGreatestSpec.post enc Try.prog Try.f5 false true false false) := by
  refine returnsInHanded_of_change_sized (C := Try.checked) own started (by kernel_rfl) Try.func5
    (ChangeSpec.witness6 (enc := enc) (C := Try.checked) false ⟨#[], #[.agg #[.int .i64 0, .slice none 0 0], .slice none 0 0, .slice none 0 0], []⟩ 8 (by kernel_rfl) (by kernel_rfl) (by kernel_rfl) (by kernel_rfl)) ?_
  intro W base args ds gs before hval0 hW _ hsz0 _
  have hsz : (DataW.weightsEach Try.prog (Try.f5.params.toList ++ Rows.lexGreatestSpec.plain.varTypes Try.prog) (ds ++ gs)).all (· ≤ reachBytes) = true := hsz0
  have hval : ∀ (j : Nat) t v, Try.f5.params[j]? = some t → args[j]? = some v → Value.okWide Try.prog W .any base t v := hval0
  have hW' := hW
  obtain ⟨p, q, hA0, hV, rfl, hfz, hnd⟩ := hW
  have hA : DataW.TrodAll enc Try.prog W 0 (fun _ => true) true Try.f5.params.toList args.toList ds p := hA0
  rw [Try.params5] at hA hval hsz
  obtain ⟨v0, vs0, d0, ds0, p0, q0, hargs, rfl, rfl, h0, r0⟩ := trodAll_cons hA
  obtain ⟨v1, vs1, d1, ds1, p1, q1, rfl, rfl, rfl, h1, r1⟩ := trodAll_cons r0
  obtain ⟨v2, vs2, d2, ds2, p2, q2, rfl, rfl, rfl, h2, r2⟩ := trodAll_cons r1
  obtain ⟨rfl, rfl, rfl⟩ := trodAll_nil r2
  obtain rfl : args = #[v0, v1, v2] := by cases args; simp_all
  obtain ⟨rfl, rfl⟩ := trodVars_none hV
  have k0 := h0
  have lt0 : ∀ x ∈ p0, x.block < W.heap.size := by obtain ⟨m, hm⟩ := k0; exact DataW.trod_lt m _ _ _ hm
  have k1 := h1
  have lt1 : ∀ x ∈ p1, x.block < W.heap.size := by obtain ⟨m, hm⟩ := k1; exact DataW.trod_lt m _ _ _ hm
  have k2 := h2
  have lt2 : ∀ x ∈ p2, x.block < W.heap.size := by obtain ⟨m, hm⟩ := k2; exact DataW.trod_lt m _ _ _ hm
  obtain ⟨n0, a0, len0, cap0, es0, rfl, b0⟩ := net_of (hval 0 24 v0 rfl rfl) k0 (weights_at hsz (j := 0) (t := 24) rfl rfl)
  obtain ⟨a1, len1, cap1, rfl⟩ := okWide_slice Try.underlying25 (hval 1 25 v1 rfl rfl)
  obtain ⟨z1, b1⟩ := ints_of k1 (weights_at hsz (j := 1) (t := 25) rfl rfl)
  obtain ⟨a2, len2, cap2, rfl⟩ := okWide_slice Try.underlying33 (hval 2 33 v2 rfl rfl)
  obtain ⟨z2, b2⟩ := intss_of k2 (weights_at hsz (j := 2) (t := 33) rfl rfl)
  clear hA0 hval0 hsz0 hsz
  refine (walk n0 a0 len0 cap0 es0 a1 len1 cap1 z1 a2 len2 cap2 z2 W b0 b1 b2).mono fun e W' ⟨he, bel⟩ => ?_
  subst he
  exact ⟨_, rfl, _, _, _, [], _, [], hW', trodAll_mk1 (shut_bool Try.underlying4 _), (trodAll_cons_mk (Below.trod laidOut (by kernel_rfl) (of_decide_eq_true (by kernel_rfl)) k0 bel lt0) (trodAll_cons_mk (Below.trod laidOut (by kernel_rfl) (of_decide_eq_true (by kernel_rfl)) k1 bel lt1) (trodAll_cons_mk (Below.trod laidOut (by kernel_rfl) (of_decide_eq_true (by kernel_rfl)) k2 bel lt2) trodAll_mk0))), rfl, bel.frame _, fun h => by cases h⟩

theorem over : Rows.lexGreatestRow.holds Try.pinned (OpenSpec.ofChange Rows.lexGreatestSpec) :=
  OpenClaim.holds_of_wide 5 Try.f5 rfl rfl rfl rfl rfl rfl rfl ⟨rfl, rfl, rfl, rfl, rfl⟩ rfl rfl rfl rfl rfl (by kernel_rfl) Try.func5 (by kernel_rfl)
    (of_decide_eq_true (by kernel_rfl)) (by unfold Func.isWrapper; first | (rw [if_pos (by decide +kernel)]; kernel_rfl) | (rw [if_neg (by decide +kernel)]; exact ⟨rfl, rfl⟩))
    (fun os started H enc _ => lifted os started H enc)

theorem proved : Rows.LexGreatestSaid := over
end Go.Proofs.Ytdkciaglbipcpaa.lawLGreat
