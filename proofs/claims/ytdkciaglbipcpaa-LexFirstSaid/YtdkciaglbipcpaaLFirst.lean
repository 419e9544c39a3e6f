/-
  The statement LexFirst is proved for every network and every list of numbers: the first source has as much as it would have alone, nobody has more than alone, and whoever comes last changes nothing for those ahead of it. No condition.
-/
import Derived.Deep.DeepCutAuto
import Derived.Test.YtdkciaglbipcpaaFirst7
import Derived.Test.YtdkciaglbipcpaaFit
import Derived.Test.YtdkciaglbipcpaaOpen
import Derived.Test.YtdkciaglbipcpaaRows
namespace Go.Proofs.Ytdkciaglbipcpaa.lawLFirst
open Go.ChangeShapes Go.WideShapes Go.ChangeAt Go.RowKit Gm

set_option maxRecDepth 100000 in
set_option maxHeartbeats 8000000 in
theorem walk (v : Int) (a : Option Addr) (len cap : Nat) (es : List E) (ra : Option Addr) (rlen rcap : Nat) (raw : List Int) (w : World) (h0 : I64 v ∧ NetAt w.heap.size w a len es ∧ Wide es) (h1 : FlowAt w.heap.size w ra rlen raw ∧ ∀ x ∈ raw, I64 x) :
    Calls Try.prog 7 #[netV v a len cap, .slice ra rlen rcap] w fun e w' => e = .returned (.bool true) ∧ Below w.heap.size w w' := by
  obtain ⟨hv, hE, hW⟩ := h0
  obtain ⟨hR, hraw⟩ := h1
  obtain ⟨W0, hW0⟩ : ∃ W0, w.alloc (.cells #[.int .i64 v, .slice a len cap] 24) = W0 := ⟨_, rfl⟩
  have hB0 : Below w.heap.size w W0 := by rw [← hW0]; exact (Below.refl _ w).alloc (Nat.le_refl _) _
  have bN : Blk W0 w.heap.size 24 #[.int .i64 v, .slice a len cap] := by rw [← hW0]; exact Blk.new w _ _
  have HW0 := Lib.hid hW0
  have HV := Lib.hid hv
  have HE := Lib.hid hE
  have HWI := Lib.hid hW
  have HR := Lib.hid hR
  have HRAW := Lib.hid hraw
  have hN := fitN_bd v
  obtain ⟨n, hn⟩ : ∃ n : Nat, fitN v = n := ⟨(fitN v).toNat, by omega⟩
  rw [hn] at hN
  have HRT := Lib.hid (fit_right v es)
  rw [hn] at HRT
  have HNN := Lib.hid hn
  have hz0 := hB0.size
  clear hW0 hv hE hW hR hraw hn
  go_enter Try.func7, Try.ntmps7
  go_upto_region 3 with (first
    | (go_at_call 10; rw [HW0.out]; (with_reducible refine (awake7_any _).mono ?_); rintro e w1 ⟨rfl, hb1⟩
       have bN1 := bN.below hb1 bN.lt
       have hB1 : Below w.heap.size w w1 := hB0.trans (hb1.mono hz0)
       obtain ⟨lN1, n0, n1⟩ := bN1.two)
    | (go_at_call 14; (with_reducible refine (fit_any _ _ _ _ es _ ((HE.out.below hB1).more hB1.size) HV.out HWI.out).mono ?_); rintro e w2 ⟨a2, cap2, rfl, hE2, hb2⟩
       rw [HNN.out] at hE2 ⊢
       have hB2 : Below w.heap.size w w2 := hB1.trans (hb2.mono hB1.size)
       have lN2 : w2.heap.size < w2.heap.size + 1 := by omega))
  obtain ⟨F, hF⟩ : ∃ F, fitEs n es = F := ⟨_, rfl⟩
  rw [hF] at hE2 HRT ⊢
  obtain ⟨fl, hfl⟩ : ∃ fl, F.length = fl := ⟨_, rfl⟩
  rw [hfl] at hE2 ⊢
  have HFL := Lib.hid hfl
  have hflb : fl ≤ 256 := by rw [← hfl]; exact fes_len HRT.out
  obtain ⟨w3, hw3⟩ : ∃ W, w2.alloc (.cells #[.int .i64 (n : Int), .slice a2 fl cap2] 24) = W := ⟨_, rfl⟩
  have bM : Blk w3 w2.heap.size 24 #[.int .i64 (n : Int), .slice a2 fl cap2] := hw3 ▸ Blk.new w2 _ _
  have hB3 : Below w.heap.size w w3 := hw3 ▸ hB2.alloc hB2.size _
  have HE3 : Hid (NetAt w3.heap.size w3 a2 fl F) := Lib.hid (net_on hE2 (hw3 ▸ (Below.refl _ w2).alloc (Nat.le_refl _) _))
  have hz3 := hB3.size
  have HR3 := Lib.hid ((HR.out.below hB3).more hz3)
  rw [hw3]
  obtain ⟨lM, m0, m1⟩ := bM.two
  clear hF hfl hw3 hE2 hb1 hb2 bN bN1 lN1 n0 n1 hB0 hB1 hB2 lN2 hz0
  go_upto_region 5 with (first
    | (go_at_call 15; (with_reducible refine (order_any n _ _ _ F _ _ _ raw _ HE3.out HR3.out HRAW.out (by omega)).mono ?_); rintro e w4 ⟨oa, oc, o, rfl, hO4, hoc, hperm, hb4⟩
       have bM4 := bM.below hb4 bM.lt
       obtain ⟨lM4, m40, m41⟩ := bM4.two
       have HE4 := Lib.hid (net_on HE3.out hb4)
       have HO4 := Lib.hid hO4
       have hB4 := hB3.trans (hb4.mono hz3)
       have hz4 := hB4.size
       have HFO := Lib.hid (form_nil HRT.out hperm)
       have hol : o.length ≤ 256 := by have := order_len hperm; rw [HFL.out] at this; omega
       have HR1 := Lib.hid (fillF_form HFO.out)
       clear hO4 hb4 hperm m0 m1)
    | (go_at_call 11; (with_reducible refine (fill_any _ _ _ _ F 0 1 _ _ _ o _ _ _ [] _ HE4.out HO4.out (wayss_none _ _)).mono ?_); rw [HR1.out]; rintro e w5 ⟨pa, pl, pc, ga, gl, gc, he, hP5, hG5, hgc5, hb5⟩
       dsimp only at he hP5 hG5
       subst he
       have bM5 := bM4.below hb5 bM4.lt
       have HE5 := Lib.hid (net_on HE4.out hb5)
       have HO5 := Lib.hid (flow_on HO4.out hb5)
       have hB5 := hB4.trans (hb5.mono hz4)
       have hz5 := hB5.size
       obtain rfl : o.length = gl := by have := hG5.1; rw [gotF_len] at this; exact this
       have HG5 := Lib.hid hG5
       clear hP5 hG5 hb5 m40 m41))
  obtain ⟨ol, hole⟩ : ∃ k, o.length = k := ⟨_, rfl⟩
  rw [hole] at HG5 HO5 hgc5 hoc hol ⊢
  have HOL := Lib.hid hole
  have HG5' := Lib.hid HG5.out
  clear HG5 hole bM bM4 HO4
  have t0 : ((ol : Int) != (ol : Int)) = false := by simp
  go_wp2
  clear t0
  go_loopw [11] (fun kv wr => ∃ i : Nat, i ≤ ol ∧ kv = .int .i64 i ∧ Below w5.heap.size w5 wr) (fun kv _ => ol - (intOf kv).toNat)
  case atStart => exact ⟨0, Nat.zero_le _, rfl, Below.refl _ _⟩
  case round =>
    obtain ⟨i, hi, rfl, hb⟩ := hrel
    obtain ⟨w6, rfl⟩ : ∃ w', w' = wr := ⟨_, rfl⟩
    by_cases hlt : i < ol
    · have hii : (i : Int) < (ol : Int) := by omega
      have hio : i < o.length := by rw [HOL.out]; exact hlt
      obtain ⟨x, hx⟩ : ∃ x, o[i]?.getD 0 = x := ⟨_, rfl⟩
      have hxm : x ∈ o := by rw [← hx, List.getElem?_eq_getElem hio]; exact List.getElem_mem hio
      have HRA := Lib.hid (fillF_form (HFO.out.alone hxm))
      have HRB := Lib.hid (fillF_form (HFO.out.take (i + 1)))
      have hgs := got_same HFO.out (k := i + 1) (by omega)
      have hgi := got_at (fillE n F 0 1 o []) o hio
      have hg0 := got_at (fillE n F 0 1 o []) o (i := 0) (by omega)
      obtain ⟨A, hA⟩ : ∃ A, fa (fillE n F 0 1 [x] []) x.toNat = A := ⟨_, rfl⟩
      obtain ⟨G, hG⟩ : ∃ G, gotF (fillE n F 0 1 o []) o = G := ⟨_, rfl⟩
      have hga : gotF (fillE n F 0 1 [x] []) [x] = [A] := by rw [← hA]; rfl
      have hal := got_alone HFO.out hxm
      have hfi := fun h0 => got_first HFO.out h0
      rw [hG] at hgi hg0 hgs
      rw [hx] at hgi
      rw [← hgi, hA] at hal
      have hsp : (((i : Int) == 0) = true ∧ (A != G[0]?.getD 0) = false) ∨ ((i : Int) == 0) = false := by
        by_cases e : i = 0
        · left
          subst e
          refine ⟨by simp, ?_⟩
          have h := hfi (by omega)
          rw [hx, hA, ← hgi] at h
          rw [h]; simp
        · right; simp [e]
      obtain ⟨gi, hgie⟩ : ∃ y, G[i]?.getD 0 = y := ⟨_, rfl⟩
      obtain ⟨g0, hg0e⟩ : ∃ y, G[0]?.getD 0 = y := ⟨_, rfl⟩
      rw [hgie] at hal
      rw [hg0e] at hsp
      have hal2 : ¬ A < gi := by omega
      have HGA := Lib.hid hga
      have HGS := Lib.hid hgs
      have HX := Lib.hid hx
      have HG : Hid (FlowAt w5.heap.size w5 ga ol G) := Lib.hid (by rw [← hG]; exact HG5'.out)
      have hGl := HG.out.1
      obtain ⟨gb, go, hgaa, hgc⟩ := HG.out.2.2.int
      obtain ⟨hgb, ci⟩ := hgc i (by omega)
      obtain ⟨_, c0⟩ := hgc 0 (by omega)
      obtain rfl : ga = some ⟨gb, go, none⟩ := by
        rcases hgaa with h | h
        · omega
        · exact h
      rw [hgie] at ci
      rw [hg0e] at c0
      have HCI := Lib.hid ci
      have HC0 := Lib.hid c0
      have hwk : IntKind.i64.wrap ((i : Int) + 1) = (i : Int) + 1 := IntWalk.i64_in _ (by omega)
      have hHW := Lib.hid hwk
      have hct := cut_mid oa ol oc i (i + 1) (by omega) (by omega)
      have hct1 : ∀ w, (Instr.slice 25 (.slice oa ol oc) (some (.int .i64 (i : Int))) (some (.int .i64 ((i : Int) + 1))) none).run Try.prog w = .ok (.slice (cutA oa oc i) 1 (oc - i)) w := fun w => by
        have := hct w
        rwa [show (((i + 1 : Nat) : Int)) = (i : Int) + 1 by omega, show i + 1 - i = 1 by omega] at this
      have hct := cut_to oa ol oc (i + 1) (by omega)
      have hct2 : ∀ w, (Instr.slice 25 (.slice oa ol oc) none (some (.int .i64 ((i : Int) + 1))) none).run Try.prog w = .ok (.slice oa (i + 1) oc) w := fun w => by
        have := hct w
        rwa [show (((i + 1 : Nat) : Int)) = (i : Int) + 1 by omega] at this
      have hct := cut_to (some ⟨gb, go, none⟩) ol gc (i + 1) (by omega)
      have hct3 : ∀ w, (Instr.slice 25 (.slice (some ⟨gb, go, none⟩) ol gc) none (some (.int .i64 ((i : Int) + 1))) none).run Try.prog w = .ok (.slice (some ⟨gb, go, none⟩) (i + 1) gc) w := fun w => by
        have := hct w
        rwa [show (((i + 1 : Nat) : Int)) = (i : Int) + 1 by omega] at this
      have hcells : ∀ W, Below w6.heap.size w6 W → W.cell? ⟨w2.heap.size, 0, none⟩ = some (.int .i64 (n : Int)) ∧ W.cell? ⟨w2.heap.size, 1, none⟩ = some (.slice a2 fl cap2) := fun W h => (bM5.below (hb.trans (h.mono hb.size)) bM5.lt).two.2
      have HCE := Lib.hid hcells
      have HE6 := Lib.hid (net_on HE5.out hb)
      have HO6 := Lib.hid (flow_on HO5.out hb)
      have HG6 := Lib.hid (flow_on HG.out hb)
      have hz6 := hb.size
      have hgb6 : gb < w6.heap.size := by omega
      clear hio hx hxm hA hG hga hal hfi hgi hg0 hgs hgie hg0e hGl hgaa hgc ci c0 hct hcells
      go_upto_region 10 with fail
      have hB := below_drew (Below.refl w6.heap.size w6)
      refine region_mix (fun W => Below w6.heap.size w6 W) (13) (.reads [0, 1, 2, 3, 4, 5] (.only 6 (.reads [7, 8, 9, 10, 11, 12] (.only 13 (.stop))))) (by kernel_rfl) (by kernel_rfl) (hB) ?_
      obtain ⟨wq, hwq⟩ : ∃ W, w6.drew = W := ⟨_, rfl⟩
      rw [hwq] at hB ⊢
      clear hwq
      repeat (
        refine plan_read rfl (fun K hK => ?_)
        first
          | (refine plan_neg ?_ ?_
             focus (go_simp; done)
             go_simp
             refine hK _ ?_
             clear hK K)
          | (apply plan_pos
             focus (go_simp; done)
             focus (
               intro W hW
               (first | obtain ⟨d0, d1⟩ := HCE.out W hW | skip)
               go_simp
               first
                 | done
                 | exact rfl)
             go_simp
             refine hK _ ?_
             clear hK K))
      refine plan_only rfl (fun Q hQ => ?_)
      go_wp2_with (go_at_call 11; (with_reducible refine (fill_any _ _ _ _ F 0 1 _ _ _ [x] _ _ _ [] _ (net_on HE6.out hB) (by have h := flow_one (cap := oc) (flow_on HO6.out hB) hlt hoc; rwa [HX.out] at h) (wayss_none _ _)).mono ?_); rw [HRA.out]; rintro e w7 ⟨pa7, pl7, pc7, ga7, gl7, gc7, he, hP7, hG7, hgc7, hb7⟩
                   dsimp only at he hG7
                   subst he)
      rw [HGA.out] at hG7
      obtain rfl : 1 = gl7 := hG7.1
      have HG7 := Lib.hid hG7
      replace hB := hB.trans (hb7.mono hB.size)
      refine hQ _ _ (fun _ => hB) ?_
      clear hQ Q hb7 hP7 hG7 hgc7
      repeat (
        refine plan_read rfl (fun K hK => ?_)
        first
          | (refine plan_neg ?_ ?_
             focus (go_simp; done)
             go_simp
             refine hK _ ?_
             clear hK K)
          | (apply plan_pos
             focus (go_simp; done)
             focus (
               intro W hW
               (first | obtain ⟨d0, d1⟩ := HCE.out W hW | skip)
               go_simp
               first
                 | done
                 | exact rfl)
             go_simp
             refine hK _ ?_
             clear hK K))
      refine plan_only rfl (fun Q hQ => ?_)
      go_wp2
      refine hQ _ _ (fun h => absurd h (by omega)) ?_
      clear hQ Q
      unfold Plan.wp
      have HCE7 : Hid (∀ W, Below w7.heap.size w7 W → W.cell? ⟨w2.heap.size, 0, none⟩ = some (.int .i64 (n : Int)) ∧ W.cell? ⟨w2.heap.size, 1, none⟩ = some (.slice a2 fl cap2)) := Lib.hid (fun W h => HCE.out W (on_below hB h))
      have HE7 := Lib.hid (net_on HE6.out hB)
      have HO7 := Lib.hid (flow_on HO6.out hB)
      have HGG7 := Lib.hid (flow_on HG6.out hB)
      have HBW := Lib.hid (on_below hb hB)
      have hz7 := HBW.out.size
      clear hB HCE HE6 HO6 HG6 hct1
      go_upto_region 11 with fail
      have hB := below_drew (Below.refl w7.heap.size w7)
      refine region_mix (fun W => Below w7.heap.size w7 W) (12) (.reads [0, 1, 2, 3, 4] (.only 5 (.reads [6, 7, 8, 9, 10, 11] (.only 12 (.stop))))) (by kernel_rfl) (by kernel_rfl) (hB) ?_
      obtain ⟨wq, hwq⟩ : ∃ W, w7.drew = W := ⟨_, rfl⟩
      rw [hwq] at hB ⊢
      clear hwq
      repeat (
        refine plan_read rfl (fun K hK => ?_)
        first
          | (refine plan_neg ?_ ?_
             focus (go_simp; done)
             go_simp
             refine hK _ ?_
             clear hK K)
          | (apply plan_pos
             focus (go_simp; done)
             focus (
               intro W hW
               (first | obtain ⟨d0, d1⟩ := HCE7.out W hW | skip)
               go_simp
               first
                 | done
                 | exact rfl)
             go_simp
             refine hK _ ?_
             clear hK K))
      refine plan_only rfl (fun Q hQ => ?_)
      go_wp2_with (go_at_call 11; (with_reducible refine (fill_any _ _ _ _ F 0 1 _ _ _ (o.take (i + 1)) _ _ _ [] _ (net_on HE7.out hB) (flow_take (flow_on HO7.out hB) (by omega)) (wayss_none _ _)).mono ?_); rw [HRB.out]; rintro e w8 ⟨pa8, pl8, pc8, ga8, gl8, gc8, he, hP8, hG8, hgc8, hb8⟩
                   dsimp only at he hG8
                   subst he)
      rw [HGS.out] at hG8
      have HG8 := Lib.hid hG8
      replace hB := hB.trans (hb8.mono hB.size)
      refine hQ _ _ (fun _ => hB) ?_
      clear hQ Q hb8 hP8 hG8 hgc8
      repeat (
        refine plan_read rfl (fun K hK => ?_)
        first
          | (refine plan_neg ?_ ?_
             focus (go_simp; done)
             go_simp
             refine hK _ ?_
             clear hK K)
          | (apply plan_pos
             focus (go_simp; done)
             focus (
               intro W hW
               (first | obtain ⟨d0, d1⟩ := HCE7.out W hW | skip)
               go_simp
               first
                 | done
                 | exact rfl)
             go_simp
             refine hK _ ?_
             clear hK K))
      refine plan_only rfl (fun Q hQ => ?_)
      go_wp2
      refine hQ _ _ (fun h => absurd h (by omega)) ?_
      clear hQ Q
      unfold Plan.wp
      have HGG8 := Lib.hid (flow_on HGG7.out hB)
      have HA8 := Lib.hid (flow_on HG7.out hB)
      have HBW8 := Lib.hid (on_below HBW.out hB)
      have hz8 := HBW8.out.size
      obtain ⟨ab, ao, haa, hac⟩ := HA8.out.2.2.int
      obtain ⟨hab, ca⟩ := hac 0 (by simp)
      obtain rfl : ga7 = some ⟨ab, ao, none⟩ := by
        rcases haa with h | h
        · simp at h
        · exact h
      have ca' : w8.cell? ⟨ab, ao, none⟩ = some (.int .i64 A) := by simpa using ca
      have hcells : ∀ W, Below w8.heap.size w8 W → W.cell? ⟨ab, ao, none⟩ = some (.int .i64 A) ∧ W.cell? ⟨gb, go + i, none⟩ = some (.int .i64 gi) ∧ W.cell? ⟨gb, go, none⟩ = some (.int .i64 g0) := fun W h => by
        have h5 := on_below HBW8.out h
        refine ⟨(h.cell (p := ⟨ab, ao, none⟩) hab).trans ca', (h5.cell (p := ⟨gb, go + i, none⟩) hgb).trans HCI.out, ?_⟩
        have := (h5.cell (p := ⟨gb, go, none⟩) hgb).trans (by simpa using HC0.out)
        exact this
      have HCE8 := Lib.hid hcells
      have hgl8 : gl8 = i + 1 := by have := HG8.out.1; rw [List.length_take, HG.out.1] at this; omega
      have HGL8 := Lib.hid hgl8
      have h0ol : 0 < ol := by omega
      have h0olI : (0 : Int) < (ol : Int) := by omega
      have dA : decide (A < gi) = false := by simpa using hal2
      clear hB HCE7 HE7 HO7 HGG7 haa hac ca ca' hcells hgl8 hct2 hal2
      rcases hsp with ⟨t1, t2⟩ | t1
      all_goals
        go_upto_region 12 with fail
        have hB := below_drew (Below.refl w8.heap.size w8)
        refine region_mix (fun W => Below w8.heap.size w8 W) (40) (.reads [0, 1, 2, 3, 4, 5, 6, 7, 8, 9, 10, 11, 12, 13, 14, 15, 16, 17, 18, 19, 20, 21, 22, 23, 24, 25, 26, 27, 28, 29, 30, 31, 32, 33, 34, 35, 36, 37, 38, 39] (.only 40 (.only 41 (.only 42 (.stop))))) (by kernel_rfl) (by kernel_rfl) (hB) ?_
        obtain ⟨wq, hwq⟩ : ∃ W, w8.drew = W := ⟨_, rfl⟩
        rw [hwq] at hB ⊢
        clear hwq
        repeat (
          refine plan_read rfl (fun K hK => ?_)
          first
            | (refine plan_neg ?_ ?_
               focus (go_simp; done)
               go_simp
               refine hK _ ?_
               clear hK K)
            | (apply plan_pos
               focus (go_simp; done)
               focus (
                 intro W hW
                 (first | obtain ⟨d0, d1, d2⟩ := HCE8.out W hW | skip)
                 go_simp
                 first
                   | done
                   | exact rfl)
               go_simp
               refine hK _ ?_
               clear hK K))
        refine plan_only rfl (fun Q hQ => ?_)
        go_wp2_with (go_at_call 13; (with_reducible refine (intsame_yes _ _ _ _ _ _ (G.take (i + 1)) _ (flow_on HG8.out hB) (flow_take (flow_on HGG8.out hB) (by omega))).mono ?_); rintro e w9 ⟨rfl, hd9⟩)
        replace hB := hB.trans (hd9.low _)
        refine hQ _ _ (fun h => absurd h (by omega)) ?_
        clear hQ Q
        refine plan_only rfl (fun Q hQ => ?_)
        go_wp2
        refine hQ _ _ (fun h => absurd h (by omega)) ?_
        clear hQ Q
        refine plan_only rfl (fun Q hQ => ?_)
        go_wp2
        refine hQ _ _ (fun h => absurd h (by omega)) ?_
        clear hQ Q
        unfold Plan.wp
        clear hct3 hwk
        go_wp2
        go_roundw
        case rel => exact ⟨i + 1, by omega, by go_num, on_below HBW8.out hB⟩
        case measure => simp [intOf]; omega
    · obtain rfl : i = ol := by omega
      go_wp2
      go_ret
      exact ⟨rfl, hB5.trans (hb.mono hz5)⟩

theorem own : ownKnob Try.prog.godebug = none := by kernel_rfl
theorem laidOut : laidOutB Try.prog = true := by kernel_rfl

set_option maxRecDepth 100000 in
theorem lifted (os : Os) (started : os.Started) (H : Type) (enc : TypeId × Value → H) :
    ReturnsInHanded {} Try.checked os 7 .any (Rows.lexFirstSpec.pre6 enc Try.prog Try.f7 Rows.lexFirstRow.domain false) (Rows.lexFirstSpec.post enc Try.prog Try.f7 false true false false) := by
  refine returnsInHanded_of_change_sized (C := Try.checked) own started (by kernel_rfl) Try.func7
    (ChangeSpec.witness6 (enc := enc) (C := Try.checked) false ⟨#[], #[.agg #[.int .i64 0, .slice none 0 0], .slice none 0 0], []⟩ 8 (by kernel_rfl) (by kernel_rfl) (by kernel_rfl) (by kernel_rfl)) ?_
  intro W base args ds gs before hval0 hW _ hsz0 _
  have hsz : (DataW.weightsEach Try.prog (Try.f7.params.toList ++ Rows.lexFirstSpec.plain.varTypes Try.prog) (ds ++ gs)).all (· ≤ reachBytes) = true := hsz0
  have hval : ∀ (j : Nat) t v, Try.f7.params[j]? = some t → args[j]? = some v → Value.okWide Try.prog W .any base t v := hval0
  have hW' := hW
  obtain ⟨p, q, hA0, hV, rfl, hfz, hnd⟩ := hW
  have hA : DataW.TrodAll enc Try.prog W 0 (fun _ => true) true Try.f7.params.toList args.toList ds p := hA0
  rw [Try.params7] at hA hval hsz
  obtain ⟨v0, vs0, d0, ds0, p0, q0, hargs, rfl, rfl, h0, r0⟩ := trodAll_cons hA
  obtain ⟨v1, vs1, d1, ds1, p1, q1, rfl, rfl, rfl, h1, r1⟩ := trodAll_cons r0
  obtain ⟨rfl, rfl, rfl⟩ := trodAll_nil r1
  obtain rfl : args = #[v0, v1] := by cases args; simp_all
  obtain ⟨rfl, rfl⟩ := trodVars_none hV
  have k0 := h0
  have lt0 : ∀ x ∈ p0, x.block < W.heap.size := by obtain ⟨m, hm⟩ := k0; exact DataW.trod_lt m _ _ _ hm
  have k1 := h1
  have lt1 : ∀ x ∈ p1, x.block < W.heap.size := by obtain ⟨m, hm⟩ := k1; exact DataW.trod_lt m _ _ _ hm
  obtain ⟨n0, a0, len0, cap0, es0, rfl, b0⟩ := net_of (hval 0 24 v0 rfl rfl) k0 (weights_at hsz (j := 0) (t := 24) rfl rfl)
  obtain ⟨a1, len1, cap1, rfl⟩ := okWide_slice Try.underlying25 (hval 1 25 v1 rfl rfl)
  obtain ⟨z1, b1⟩ := ints_of k1 (weights_at hsz (j := 1) (t := 25) rfl rfl)
  clear hA0 hval0 hsz0 hsz
  refine (walk n0 a0 len0 cap0 es0 a1 len1 cap1 z1 W b0 b1).mono fun e W' ⟨he, bel⟩ => ?_
  subst he
  exact ⟨_, rfl, _, _, _, [], _, [], hW', trodAll_mk1 (shut_bool Try.underlying4 _), (trodAll_cons_mk (Below.trod laidOut (by kernel_rfl) (of_decide_eq_true (by kernel_rfl)) k0 bel lt0) (trodAll_cons_mk (Below.trod laidOut (by kernel_rfl) (of_decide_eq_true (by kernel_rfl)) k1 bel lt1) trodAll_mk0)), rfl, bel.frame _, fun h => by cases h⟩

theorem over : Rows.lexFirstRow.holds Try.pinned (OpenSpec.ofChange Rows.lexFirstSpec) :=
  OpenClaim.holds_of_wide 7 Try.f7 rfl rfl rfl rfl rfl rfl rfl ⟨rfl, rfl, rfl, rfl, rfl⟩ rfl rfl rfl rfl rfl (by kernel_rfl) Try.func7 (by kernel_rfl)
    (of_decide_eq_true (by kernel_rfl)) (by unfold Func.isWrapper; first | (rw [if_pos (by decide +kernel)]; kernel_rfl) | (rw [if_neg (by decide +kernel)]; exact ⟨rfl, rfl⟩))
    (fun os started H enc _ => lifted os started H enc)

theorem proved : Rows.LexFirstSaid := over
end Go.Proofs.Ytdkciaglbipcpaa.lawLFirst
