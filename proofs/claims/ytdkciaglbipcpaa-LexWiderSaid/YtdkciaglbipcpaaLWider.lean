/-
  The statement LexWider is proved for every network, every list of numbers and every number: a source with a greater Cap, first of all, has not less, and the others together have not more. No condition.
-/
import Derived.Deep.DeepCutAuto
import Derived.Test.YtdkciaglbipcpaaFirst7
import Derived.Test.YtdkciaglbipcpaaParts7
import Derived.Test.YtdkciaglbipcpaaFit
import Derived.Test.YtdkciaglbipcpaaOpen
import Derived.Test.YtdkciaglbipcpaaRows
namespace Go.Proofs.Ytdkciaglbipcpaa.lawLWider
open Go.ChangeShapes Go.WideShapes Go.ChangeAt Go.RowKit Gm

def WidePost (n : Int) (F : List E) (fl : Nat) (w5 : World) (s : Value) (wx : World) : Prop :=
  ∃ M sa sc, s = .pointer (some ⟨M, 0, none⟩) ∧ w5.heap.size ≤ M ∧ Blk wx M 24 #[.int .i64 n, .slice sa fl sc] ∧ wx.ownsRow w5.heap.size 50 3 (.slice sa fl sc) fl (flat F) ∧ Below w5.heap.size w5 wx

set_option maxRecDepth 100000 in
set_option maxHeartbeats 8000000 in
theorem walk (v : Int) (a : Option Addr) (len cap : Nat) (es : List E) (ra : Option Addr) (rlen rcap : Nat) (raw : List Int) (more : Int) (w : World) (h0 : I64 v ∧ NetAt w.heap.size w a len es ∧ Wide es) (h1 : FlowAt w.heap.size w ra rlen raw ∧ ∀ x ∈ raw, I64 x) (hmo : I64 more) :
    Calls Try.prog 9 #[netV v a len cap, .slice ra rlen rcap, .int .i64 more] w fun e w' => e = .returned (.bool true) ∧ Below w.heap.size w w' := by
  obtain ⟨hv, hE, hW⟩ := h0
  obtain ⟨hR, hraw⟩ := h1
  obtain ⟨W0, hW0⟩ : ∃ W0, w.alloc (.cells #[.int .i64 v, .slice a len cap] 24) = W0 := ⟨_, rfl⟩
  have hB0 : Below w.heap.size w W0 := by rw [← hW0]; exact (Below.refl _ w).alloc (Nat.le_refl _) _
  have bN : Blk W0 w.heap.size 24 #[.int .i64 v, .slice a len cap] := by rw [← hW0]; exact Blk.new w _ _
  have HW0 := Lib.hid hW0
  have HV := Lib.hid hv
  have HE := Lib.hid hE
  have HWI := Lib.hid hW
  have HR := Lib.hid hR
  have HRAW := Lib.hid hraw
  have hN := fitN_bd v
  obtain ⟨n, hn⟩ : ∃ n : Nat, fitN v = n := ⟨(fitN v).toNat, by omega⟩
  rw [hn] at hN
  have HRT := Lib.hid (fit_right v es)
  rw [hn] at HRT
  have HNN := Lib.hid hn
  have hz0 := hB0.size
  have HMO := Lib.hid hmo
  have hcap9 : ∀ e ∈ fitEs n es, e.2.2 ≤ 9 := fun e he => (fitEs_ok _ _ hN.1 e he).2
  clear hmo hW0 hv hE hW hR hraw hn
  go_enter Try.func9, Try.ntmps9
  go_upto_region 3 with (first
    | (go_at_call 10; rw [HW0.out]; (with_reducible refine (awake7_any _).mono ?_); rintro e w1 ⟨rfl, hb1⟩
       have bN1 := bN.below hb1 bN.lt
       have hB1 : Below w.heap.size w w1 := hB0.trans (hb1.mono hz0)
       obtain ⟨lN1, n0, n1⟩ := bN1.two)
    | (go_at_call 14; (with_reducible refine (fit_any _ _ _ _ es _ ((HE.out.below hB1).more hB1.size) HV.out HWI.out).mono ?_); rintro e w2 ⟨a2, cap2, rfl, hE2, hb2⟩
       rw [HNN.out] at hE2 ⊢
       have hB2 : Below w.heap.size w w2 := hB1.trans (hb2.mono hB1.size)
       have lN2 : w2.heap.size < w2.heap.size + 1 := by omega))
  obtain ⟨F, hF⟩ : ∃ F, fitEs n es = F := ⟨_, rfl⟩
  rw [hF] at hE2 HRT hcap9 ⊢
  have HC9 := Lib.hid hcap9
  clear hcap9
  obtain ⟨fl, hfl⟩ : ∃ fl, F.length = fl := ⟨_, rfl⟩
  rw [hfl] at hE2 ⊢
  have HFL := Lib.hid hfl
  have hflb : fl ≤ 256 := by rw [← hfl]; exact fes_len HRT.out
  obtain ⟨w3, hw3⟩ : ∃ W, w2.alloc (.cells #[.int .i64 (n : Int), .slice a2 fl cap2] 24) = W := ⟨_, rfl⟩
  have bM : Blk w3 w2.heap.size 24 #[.int .i64 (n : Int), .slice a2 fl cap2] := hw3 ▸ Blk.new w2 _ _
  have hB3 : Below w.heap.size w w3 := hw3 ▸ hB2.alloc hB2.size _
  have HE3 : Hid (NetAt w3.heap.size w3 a2 fl F) := Lib.hid (net_on hE2 (hw3 ▸ (Below.refl _ w2).alloc (Nat.le_refl _) _))
  have hz3 := hB3.size
  have HR3 := Lib.hid ((HR.out.below hB3).more hz3)
  rw [hw3]
  obtain ⟨lM, m0, m1⟩ := bM.two
  clear hF hfl hw3 hE2 hb1 hb2 bN bN1 lN1 n0 n1 hB0 hB1 hB2 lN2 hz0
  go_upto_region 5 with (first
    | (go_at_call 15; (with_reducible refine (order_any n _ _ _ F _ _ _ raw _ HE3.out HR3.out HRAW.out (by omega)).mono ?_); rintro e w4 ⟨oa, oc, o, rfl, hO4, hoc, hperm, hb4⟩
       have bM4 := bM.below hb4 bM.lt
       obtain ⟨lM4, m40, m41⟩ := bM4.two
       have HE4 := Lib.hid (net_on HE3.out hb4)
       have HO4 := Lib.hid hO4
       have hB4 := hB3.trans (hb4.mono hz3)
       have hz4 := hB4.size
       have HFO := Lib.hid (form_nil HRT.out hperm)
       have hol : o.length ≤ 256 := by have := order_len hperm; rw [HFL.out] at this; omega
       have HR1 := Lib.hid (fillF_form HFO.out)
       have HPERM := Lib.hid hperm
       clear hO4 hb4 hperm m0 m1)
    | (go_at_call 11; (with_reducible refine (fill_any _ _ _ _ F 0 1 _ _ _ o _ _ _ [] _ HE4.out HO4.out (wayss_none _ _)).mono ?_); rw [HR1.out]; rintro e w5 ⟨pa, pl, pc, ga, gl, gc, he, hP5, hG5, hgc5, hb5⟩
       dsimp only at he hP5 hG5
       subst he
       have bM5 := bM4.below hb5 bM4.lt
       have HE5 := Lib.hid (net_on HE4.out hb5)
       have HO5 := Lib.hid (flow_on HO4.out hb5)
       have hB5 := hB4.trans (hb5.mono hz4)
       have hz5 := hB5.size
       obtain rfl : o.length = gl := by have := hG5.1; rw [gotF_len] at this; exact this
       have HG5 := Lib.hid hG5
       clear hP5 hG5 hb5 m40 m41))
  by_cases h0 : o.length = 0
  · have t0 : ((o.length : Int) == 0) = true := by simp [h0]
    clear h0
    go_wp2
    go_ret
    exact ⟨rfl, hB5⟩
  have t0 : ((o.length : Int) == 0) = false := by simp [h0]
  have hpos : 0 < o.length := by omega
  obtain ⟨x0, hx0⟩ : ∃ x, o[0]?.getD 0 = x := ⟨_, rfl⟩
  have hsx := isSrc_iff.1 (HFO.out.src _ (List.getElem_mem hpos))
  have hx0' : o[0] = x0 := by rw [← hx0, List.getElem?_eq_getElem hpos]; rfl
  rw [hx0'] at hsx
  obtain ⟨m, rfl⟩ : ∃ m : Nat, x0 = m := ⟨x0.toNat, by omega⟩
  have hmF : m < F.length := by have := hsx.2.1; omega
  have hmfl : m < fl := by rw [← HFL.out]; exact hmF
  obtain ⟨d, hd⟩ : ∃ d, pk more 9 = d := ⟨_, rfl⟩
  have hdb := pk_bd more 9 (by omega)
  rw [hd] at hdb
  obtain ⟨d0, d8⟩ := hdb
  have hc9 := HC9.out (ed F m) (ed_mem hmF)
  have hok := okE_iff.1 ((right_iff.1 HRT.out).2.2.2 _ (ed_mem hmF))
  have hc0 := hok.2.2.2.2.2.1
  obtain ⟨c, hc⟩ : ∃ c, (ed F m).2.2 = c := ⟨_, rfl⟩
  rw [hc] at hc9 hc0
  have hd1 : (ed F m).2.2 + d ≤ 1000 := by rw [hc]; omega
  have HFW := Lib.hid (wider_form HFO.out hmF d0 hd1)
  have HR2 := Lib.hid (fillF_form HFW.out)
  obtain ⟨hsum, hfirst⟩ := wider_sum HFO.out hmF d0 hd1 HPERM.out hpos hx0
  have HSUM := Lib.hid hsum
  have HFIRST := Lib.hid hfirst
  have HD := Lib.hid hd
  have HX0 := Lib.hid hx0
  have HMF := Lib.hid hmF
  have hflat : (flat F).set (m * 3 + 2) (.int .i64 (c + d)) = flat (wider F m d) := by
    have hed : ed F m = F[m] := by unfold ed; rw [List.getElem?_eq_getElem hmF]; rfl
    rw [flat_set _ _ _ hmF]
    unfold wider
    rw [hed]
    rw [hed] at hc
    rw [← hc]
    rfl
  have HFLAT := Lib.hid hflat
  have HC := Lib.hid hc
  obtain ⟨ob, oo, hoa, hoc2⟩ := HO5.out.2.2.int
  obtain ⟨hob, co⟩ := hoc2 0 hpos
  obtain rfl : oa = some ⟨ob, oo, none⟩ := by
    rcases hoa with h | h
    · omega
    · exact h
  rw [hx0, Nat.add_zero] at co
  have HCO := Lib.hid co
  obtain ⟨lM5, q0, q1⟩ := bM5.two
  have hposI : (0 : Int) < (o.length : Int) := by omega
  have hmI : (m : Int) < (fl : Int) := by omega
  have hcells : ∀ W, Below w5.heap.size w5 W → W.cell? ⟨w2.heap.size, 0, none⟩ = some (.int .i64 (n : Int)) ∧ W.cell? ⟨w2.heap.size, 1, none⟩ = some (.slice a2 fl cap2) := fun W h => (bM5.below h bM5.lt).two.2
  have HCE := Lib.hid hcells
  clear hx0 hx0' hsx hmF hd hok hc hd1 hsum hfirst hflat hoa hoc2 co hcells h0 q0 q1 bM bM4
  go_upto_region 7 with fail
  clear t0
  go_cut [13] from 46 to 51 (fun s13 wx => WidePost n F fl w5 s13 wx)
  case first =>
    have hB := below_drew (Below.refl w5.heap.size w5)
    refine region_mix (fun W => Below w5.heap.size w5 W) (7) (.reads [0, 1, 2, 3] (.fork 4 (.reads [5] (.only 6 (.only 7 (.stop)))) 6 (.only 4 (.reads [5] (.only 7 (.stop)))))) (by kernel_rfl) (by kernel_rfl) (hB) ?_
    obtain ⟨wq, hwq⟩ : ∃ W, w5.drew = W := ⟨_, rfl⟩
    rw [hwq] at hB ⊢
    clear hwq
    repeat (
      refine plan_read rfl (fun K hK => ?_)
      first
        | (refine plan_neg ?_ ?_
           focus (go_simp; done)
           go_simp
           refine hK _ ?_
           clear hK K)
        | (apply plan_pos
           focus (go_simp; done)
           focus (
             intro W hW
             (first | obtain ⟨d0', d1'⟩ := HCE.out W hW | skip)
             go_simp
             first
               | done
               | exact rfl)
           go_simp
           refine hK _ ?_
           clear hK K))
    refine plan_fork rfl rfl (fun Q hQ => ?_) (fun Q hQ => ?_)
    · obtain ⟨v1, wd, hr1, ho1, hg1⟩ := append_edges (cap := cap2) (v := .slice none 0 0) (base := w5.heap.size) (World.ownsRow_nil wq w5.heap.size _ _) (net_on HE5.out hB) (by omega) 22 hB.size
      obtain ⟨sa, sc, rfl⟩ := own_form ho1
      refine wpList_append_run (by rfl) (.const (.slice none 0 0)) (.tmp 49) 22 22 (by rfl) (by rfl) (by rfl) hr1 ?_
      have h10 := ho1
      replace hB := hB.grown hg1 hB.size (fun j e => by simp [Value.ownBlock] at e)
      try replace h11 := h11.kept hg1 (by simp [Value.ownBlock])
      go_wp2
      refine hQ _ _ (fun _ => hB) ?_
      clear hQ Q hr1 ho1 hg1
      obtain ⟨wq, rfl⟩ : ∃ W, W = wd := ⟨_, rfl⟩
      repeat (
        refine plan_read rfl (fun K hK => ?_)
        first
          | (refine plan_neg ?_ ?_
             focus (go_simp; done)
             go_simp
             refine hK _ ?_
             clear hK K)
          | (apply plan_pos
             focus (go_simp; done)
             focus (
               intro W hW
               (first | obtain ⟨d0', d1'⟩ := HCE.out W hW | skip)
               go_simp
               first
                 | done
                 | exact rfl)
             go_simp
             refine hK _ ?_
             clear hK K))
      refine plan_only rfl (fun Q hQ => ?_)
      go_wp2
      have h11 := Blk.new wq 24 #[.int .i64 0, .slice none 0 0]
      have hM := hB.size
      replace hB := hB.alloc hB.size (.cells #[.int .i64 0, .slice none 0 0] 24)
      try replace h10 := h10.alloc (.cells #[.int .i64 0, .slice none 0 0] 24)
      refine hQ _ _ (fun _ => hB) ?_
      clear hQ Q
      generalize wq.alloc (.cells #[.int .i64 0, .slice none 0 0] 24) = wd at *
      generalize wq.heap.size = M at *
      obtain ⟨wq, rfl⟩ : ∃ W, W = wd := ⟨_, rfl⟩
      refine plan_only rfl (fun Q hQ => ?_)
      obtain ⟨lMM, y0, y1⟩ := h11.two
      have yf0 := h11.frozen 0
      have yf1 := h11.frozen 1
      go_wp2
      replace h10 := ownsRow_setCell_other h10 (a := ⟨M, 0, none⟩) (own_blk_ne h10 h11 (by decide)) (.int .i64 (n : Int))
      replace h11 := h11.set 0 (.int .i64 (n : Int))
      replace h10 := ownsRow_setCell_other h10 (a := ⟨M, 1, none⟩) (own_blk_ne h10 h11 (by decide)) (.slice sa fl sc)
      replace h11 := h11.set 1 (.slice sa fl sc)
      replace hB := (hB.setCell (p := ⟨M, 0, none⟩) hM (.int .i64 (n : Int))).setCell (p := ⟨M, 1, none⟩) hM (.slice sa fl sc)
      refine hQ _ _ (fun h => absurd h (by omega)) ?_
      clear hQ Q y0 y1 yf0 yf1
      unfold Plan.wp
      go_wp2_with fail
      go_meet
      exact ⟨M, sa, sc, rfl, hM, h11, h10, hB⟩
    · go_wp2
      have h11 := Blk.new wq 24 #[.int .i64 0, .slice none 0 0]
      have hM := hB.size
      replace hB := hB.alloc hB.size (.cells #[.int .i64 0, .slice none 0 0] 24)
      try replace h10 := h10.alloc (.cells #[.int .i64 0, .slice none 0 0] 24)
      refine hQ _ _ (fun _ => hB) ?_
      clear hQ Q
      generalize wq.alloc (.cells #[.int .i64 0, .slice none 0 0] 24) = wd at *
      generalize wq.heap.size = M at *
      obtain ⟨wq, rfl⟩ : ∃ W, W = wd := ⟨_, rfl⟩
      refine plan_only rfl (fun Q hQ => ?_)
      obtain ⟨v1, wd, hr1, ho1, hg1⟩ := append_edges (cap := cap2) (v := .slice none 0 0) (base := w5.heap.size) (World.ownsRow_nil wq w5.heap.size _ _) (net_on HE5.out hB) (by omega) 22 hB.size
      obtain ⟨sa, sc, rfl⟩ := own_form ho1
      refine wpList_append_run (by rfl) (.const (.slice none 0 0)) (.tmp 49) 22 22 (by rfl) (by rfl) (by rfl) hr1 ?_
      have h10 := ho1
      replace hB := hB.grown hg1 hB.size (fun j e => by simp [Value.ownBlock] at e)
      try replace h11 := h11.kept hg1 (by simp [Value.ownBlock])
      go_wp2
      refine hQ _ _ (fun _ => hB) ?_
      clear hQ Q hr1 ho1 hg1
      obtain ⟨wq, rfl⟩ : ∃ W, W = wd := ⟨_, rfl⟩
      repeat (
        refine plan_read rfl (fun K hK => ?_)
        first
          | (refine plan_neg ?_ ?_
             focus (go_simp; done)
             go_simp
             refine hK _ ?_
             clear hK K)
          | (apply plan_pos
             focus (go_simp; done)
             focus (
               intro W hW
               (first | obtain ⟨d0', d1'⟩ := HCE.out W hW | skip)
               go_simp
               first
                 | done
                 | exact rfl)
             go_simp
             refine hK _ ?_
             clear hK K))
      refine plan_only rfl (fun Q hQ => ?_)
      obtain ⟨lMM, y0, y1⟩ := h11.two
      have yf0 := h11.frozen 0
      have yf1 := h11.frozen 1
      go_wp2
      replace h10 := ownsRow_setCell_other h10 (a := ⟨M, 0, none⟩) (own_blk_ne h10 h11 (by decide)) (.int .i64 (n : Int))
      replace h11 := h11.set 0 (.int .i64 (n : Int))
      replace h10 := ownsRow_setCell_other h10 (a := ⟨M, 1, none⟩) (own_blk_ne h10 h11 (by decide)) (.slice sa fl sc)
      replace h11 := h11.set 1 (.slice sa fl sc)
      replace hB := (hB.setCell (p := ⟨M, 0, none⟩) hM (.int .i64 (n : Int))).setCell (p := ⟨M, 1, none⟩) hM (.slice sa fl sc)
      refine hQ _ _ (fun h => absurd h (by omega)) ?_
      clear hQ Q y0 y1 yf0 yf1
      unfold Plan.wp
      go_wp2_with fail
      go_meet
      exact ⟨M, sa, sc, rfl, hM, h11, h10, hB⟩
  case rest =>
    obtain ⟨M, sa, sc, rfl, hM, bX, hrow, hb6⟩ := hcut
    obtain ⟨w6, rfl⟩ : ∃ w', w' = wc := ⟨_, rfl⟩
    obtain ⟨g, hg, hg0, hg1, f0, f1, f2⟩ := own_edge (l := F) (by rw [HFL.out]; exact hrow) (by rw [HFL.out]; omega) HMF.out
    subst hg
    have hcm : F[m].2.2 = c := by
      have hed : ed F m = F[m] := by unfold ed; rw [List.getElem?_eq_getElem HMF.out]; rfl
      rw [← hed]; exact HC.out
    replace f2 : w6.cell? ⟨g, m * 3 + 2, none⟩ = some (.int .i64 c) := f2.trans (congrArg (fun y => some (Value.int .i64 y)) hcm)
    have hfz := hrow.frozenAt (m * 3 + 2)
    have HROW := Lib.hid hrow
    have HBOX := Lib.hid bX
    have HB6 := Lib.hid hb6
    have lX := bX.lt
    have hob6 : ob < w6.heap.size := Nat.lt_of_lt_of_le hob hb6.size
    have co6 : w6.cell? ⟨ob, oo, none⟩ = some (.int .i64 (m : Int)) := (hb6.cell (p := ⟨ob, oo, none⟩) hob).trans HCO.out
    have hcells : ∀ W, Below w6.heap.size w6 W → W.cell? ⟨M, 1, none⟩ = some (.slice (some ⟨g, 0, none⟩) fl sc) ∧ W.cell? ⟨ob, oo, none⟩ = some (.int .i64 (m : Int)) ∧ W.cell? ⟨g, m * 3 + 2, none⟩ = some (.int .i64 c) ∧ W.frozen? ⟨g, m * 3 + 2, none⟩ = false ∧ g < W.heap.size := fun W h => ⟨(bX.below h lX).two.2.2, (h.cell (p := ⟨ob, oo, none⟩) hob6).trans co6, (h.cell (p := ⟨g, m * 3 + 2, none⟩) hg1).trans f2, (h.frozen (p := ⟨g, m * 3 + 2, none⟩) hg1).trans hfz, Nat.lt_of_lt_of_le hg1 h.size⟩
    have HCE6 := Lib.hid hcells
    have hwr : IntKind.i64.wrap (c + d) = c + d := IntWalk.i64_in _ (by omega)
    clear f0 f1 f2 hcm hfz hrow bX hb6 co6 hcells HCE
    go_upto_region 8 with fail
    have hB := below_drew (Below.refl w6.heap.size w6)
    refine region_mix (fun W => Below w6.heap.size w6 W) (16) (.reads [0, 1, 2, 3, 4, 5, 6, 7, 8, 9, 10, 11, 12, 13] (.only 14 (.reads [15] (.only 16 (.only 17 (.only 18 (.stop))))))) (by kernel_rfl) (by kernel_rfl) (hB) ?_
    obtain ⟨wq, hwq⟩ : ∃ W, w6.drew = W := ⟨_, rfl⟩
    rw [hwq] at hB ⊢
    clear hwq
    repeat (
      refine plan_read rfl (fun K hK => ?_)
      first
        | (refine plan_neg ?_ ?_
           focus (go_simp; done)
           go_simp
           refine hK _ ?_
           clear hK K)
        | (apply plan_pos
           focus (go_simp; done)
           focus (
             intro W hW
             (first | obtain ⟨d0', d1', d2', _, d4'⟩ := HCE6.out W hW | skip)
             go_simp
             first
               | done
               | exact rfl)
           go_simp
           refine hK _ ?_
           clear hK K))
    refine plan_only rfl (fun Q hQ => ?_)
    go_wp2_with (go_at_call 21; (with_reducible refine (pick7_any _ _ _ HMO.out (by omega) (by omega)).mono ?_); rw [HD.out]; rintro e wp ⟨rfl, rfl⟩)
    refine hQ _ _ (fun _ => hB) ?_
    clear hQ Q
    repeat (
      refine plan_read rfl (fun K hK => ?_)
      first
        | (refine plan_neg ?_ ?_
           focus (go_simp; done)
           go_simp
           refine hK _ ?_
           clear hK K)
        | (apply plan_pos
           focus (go_simp; done)
           focus (
             intro W hW
             (first | obtain ⟨d0', d1', d2', _, d4'⟩ := HCE6.out W hW | skip)
             go_simp
             first
               | done
               | exact rfl)
           go_simp
           refine hK _ ?_
           clear hK K))
    obtain ⟨_, _, z2, z3, z4⟩ := HCE6.out _ hB
    refine plan_only rfl (fun Q hQ => ?_)
    go_wp2
    refine hQ _ _ (fun h => absurd h (by omega)) ?_
    clear hQ Q
    refine plan_only rfl (fun Q hQ => ?_)
    go_wp2
    refine hQ _ _ (fun h => absurd h (by omega)) ?_
    clear hQ Q
    refine plan_only rfl (fun Q hQ => ?_)
    go_wp2
    refine hQ _ _ (fun h => absurd h (by omega)) ?_
    clear hQ Q
    unfold Plan.wp
    clear hwr z2 z3 z4
    have hrow7 := own_below HROW.out hB
    have hbox7 := HBOX.out.below hB HBOX.out.lt
    have hne : M ≠ g := fun e => own_blk_ne hrow7 hbox7 (by decide) (by rw [← e]; rfl)
    obtain ⟨w7, hw7⟩ : ∃ W, wq.setCell ⟨g, m * 3 + 2, none⟩ (.int .i64 (c + d)) = W := ⟨_, rfl⟩
    have bX7 : Blk w7 M 24 #[.int .i64 (n : Int), .slice (some ⟨g, 0, none⟩) fl sc] := by rw [← hw7]; exact hbox7.far (p := ⟨g, m * 3 + 2, none⟩) hne _
    have hr7 : w7.ownsRow w5.heap.size 50 3 (.slice (some ⟨g, 0, none⟩) fl sc) fl (flat (wider F m d)) := by
      rw [← hw7]
      have h := (hrow7.stored (m * 3 + 2) (.int .i64 (c + d))).1
      rw [HFLAT.out] at h
      exact h
    have hb57 : Below w5.heap.size w5 w7 := by
      rw [← hw7]
      exact (HB6.out.trans (hB.mono HB6.out.size)).setCell (p := ⟨g, m * 3 + 2, none⟩) hg0 _
    rw [hw7]
    have hwl : (wider F m d).length = fl := by rw [wider_length, HFL.out]
    have HN7 : Hid (NetAt w7.heap.size w7 (some ⟨g, 0, none⟩) fl (wider F m d)) := Lib.hid (by
      rw [← hwl] at hr7
      have := (edges_own (a := some ⟨g, 0, none⟩) (len := fl) (cap := sc) (by rw [hwl] at hr7 ⊢; exact hr7) (by omega)).2
      exact this)
    have HO7 := Lib.hid (flow_on HO5.out hb57)
    have HG7 := Lib.hid (flow_on HG5.out hb57)
    have hB7 := hB5.trans (hb57.mono hz5)
    have hz7 := hB7.size
    obtain ⟨lX7, x0, x1⟩ := bX7.two
    have t1 : ((o.length : Int) != (o.length : Int)) = false := by simp
    clear hw7 hr7 hbox7 hrow7 hne hB hb57 HROW HBOX HCE6 HB6 hwl
    go_upto_region 10 with (go_at_call 11; (with_reducible refine (fill_any _ _ _ _ (wider F m d) 0 1 _ _ _ o _ _ _ [] _ HN7.out HO7.out (wayss_none _ _)).mono ?_); rw [HR2.out]; rintro e w8 ⟨pa8, pl8, pc8, ga8, gl8, gc8, he, hP8, hG8, hgc8, hb8⟩
                            dsimp only at he hG8
                            subst he
                            obtain rfl : o.length = gl8 := by have := hG8.1; rw [gotF_len] at this; exact this
                            have HQ8 := Lib.hid hG8
                            have HG8 := Lib.hid (flow_on HG7.out hb8)
                            have hB8 := hB7.trans (hb8.mono hz7)
                            clear hP8 hG8 hgc8 hb8 x0 x1)
    obtain ⟨P, hP⟩ : ∃ P, fillE n F 0 1 o [] = P := ⟨_, rfl⟩
    obtain ⟨Q', hQ'⟩ : ∃ Q', fillE n (wider F m d) 0 1 o [] = Q' := ⟨_, rfl⟩
    rw [hP] at HG8 HSUM HFIRST
    rw [hQ'] at HQ8 HSUM HFIRST
    have HBP : Hid (∀ k, k ≤ o.length → 0 ≤ sumG P o k ∧ sumG P o k ≤ 1000 * k) := Lib.hid (by rw [← hP]; exact sumG_bd HFO.out)
    have HBQ : Hid (∀ k, k ≤ o.length → 0 ≤ sumG Q' o k ∧ sumG Q' o k ≤ 1000 * k) := Lib.hid (by rw [← hQ']; exact sumG_bd HFW.out)
    obtain ⟨pb, po, hpa, hpc⟩ := HG8.out.2.2.int
    obtain ⟨qb, qo, hqa, hqc⟩ := HQ8.out.2.2.int
    obtain rfl : ga = some ⟨pb, po, none⟩ := by
      rcases hpa with h | h
      · rw [gotF_len] at h; omega
      · exact h
    obtain rfl : ga8 = some ⟨qb, qo, none⟩ := by
      rcases hqa with h | h
      · rw [gotF_len] at h; omega
      · exact h
    have HPC := Lib.hid hpc
    have HQC := Lib.hid hqc
    clear hP hQ' hpa hqa hpc hqc
    go_wp2
    clear t1
    go_loopw [17, 18, 19] (fun ov tv kv wr => ∃ i : Nat, 1 ≤ i ∧ i ≤ o.length ∧ kv = .int .i64 i ∧ ov = .int .i64 (sumG P o i - sumG P o 1) ∧ tv = .int .i64 (sumG Q' o i - sumG Q' o 1) ∧ w8 = wr) (fun _ _ kv _ => o.length - (intOf kv).toNat)
    case atStart => exact ⟨1, Nat.le_refl _, hpos, rfl, by rw [Int.sub_self], by rw [Int.sub_self], rfl⟩
    case round =>
      obtain ⟨i, hi1, hi, rfl, rfl, rfl, rfl⟩ := hrel
      by_cases hlt : i < o.length
      · obtain ⟨hpb, cp⟩ := HPC.out i (by rw [gotF_len]; exact hlt)
        obtain ⟨hqb, cq⟩ := HQC.out i (by rw [gotF_len]; exact hlt)
        rw [got_at _ _ hlt] at cp cq
        have b1 := HBP.out i hi
        have b2 := HBP.out (i + 1) hlt
        have b3 := HBP.out 1 hpos
        have b4 := HBQ.out i hi
        have b5 := HBQ.out (i + 1) hlt
        have b6 := HBQ.out 1 hpos
        have e1 : sumG P o (i + 1) = sumG P o i + fa P (o[i]?.getD 0).toNat := rfl
        have e2 : sumG Q' o (i + 1) = sumG Q' o i + fa Q' (o[i]?.getD 0).toNat := rfl
        obtain ⟨p1, hp1⟩ : ∃ y, fa P (o[i]?.getD 0).toNat = y := ⟨_, rfl⟩
        obtain ⟨q1, hq1⟩ : ∃ y, fa Q' (o[i]?.getD 0).toNat = y := ⟨_, rfl⟩
        rw [hp1] at cp e1
        rw [hq1] at cq e2
        obtain ⟨A, hA⟩ : ∃ A, sumG P o i - sumG P o 1 = A := ⟨_, rfl⟩
        obtain ⟨B, hBe⟩ : ∃ B, sumG Q' o i - sumG Q' o 1 = B := ⟨_, rfl⟩
        have HA : Hid (sumG P o (i + 1) - sumG P o 1 = A + p1) := Lib.hid (by rw [← hA, e1]; omega)
        have HBB : Hid (sumG Q' o (i + 1) - sumG Q' o 1 = B + q1) := Lib.hid (by rw [← hBe, e2]; omega)
        have u1 : -1000000 ≤ A + p1 ∧ A + p1 ≤ 1000000 := by omega
        have u2 : -1000000 ≤ B + q1 ∧ B + q1 ≤ 1000000 := by omega
        rw [hA, hBe]
        have hii : (i : Int) < (o.length : Int) := by omega
        have hw1 : IntKind.i64.wrap (A + p1) = A + p1 := IntWalk.i64_in _ (by omega)
        have hw2 : IntKind.i64.wrap (B + q1) = B + q1 := IntWalk.i64_in _ (by omega)
        obtain ⟨u1a, u1b⟩ := u1
        obtain ⟨u2a, u2b⟩ := u2
        clear b1 b2 b3 b4 b5 b6 e1 e2 hp1 hq1 hA hBe
        go_wp2
        go_roundw
        case rel => exact ⟨i + 1, by omega, by omega, by go_num, by rw [HA.out], by rw [HBB.out], trivial⟩
        case measure => simp [intOf]; omega
      · obtain rfl : i = o.length := by omega
        obtain ⟨hpb, cp⟩ := HPC.out 0 (by rw [gotF_len]; exact hpos)
        obtain ⟨hqb, cq⟩ := HQC.out 0 (by rw [gotF_len]; exact hpos)
        rw [got_at _ _ hpos, Nat.add_zero, HX0.out, Int.toNat_natCast] at cp cq
        have hf := HFIRST.out
        have hs := HSUM.out
        obtain ⟨p1, hp1⟩ : ∃ y, fa P m = y := ⟨_, rfl⟩
        obtain ⟨q1, hq1⟩ : ∃ y, fa Q' m = y := ⟨_, rfl⟩
        rw [hp1] at cp hf
        rw [hq1] at cq hf
        obtain ⟨A, hA⟩ : ∃ A, sumG P o o.length - sumG P o 1 = A := ⟨_, rfl⟩
        obtain ⟨B, hBe⟩ : ∃ B, sumG Q' o o.length - sumG Q' o 1 = B := ⟨_, rfl⟩
        rw [hA, hBe] at hs
        rw [hA, hBe]
        have t1 : decide (p1 ≤ q1) = true := by simp [hf]
        have t2 : decide (B ≤ A) = true := by simp [hs]
        have hcells : ∀ W, Below w8.heap.size w8 W → W.cell? ⟨pb, po, none⟩ = some (.int .i64 p1) ∧ W.cell? ⟨qb, qo, none⟩ = some (.int .i64 q1) := fun W h => ⟨(h.cell (p := ⟨pb, po, none⟩) hpb).trans cp, (h.cell (p := ⟨qb, qo, none⟩) hqb).trans cq⟩
        have HCE8 := Lib.hid hcells
        clear hp1 hq1 hf hs hA hBe cp cq hcells hlt
        go_upto_region 19 with fail
        have hB := below_drew (Below.refl w8.heap.size w8)
        refine region_mix (fun W => Below w8.heap.size w8 W) (10) (.reads [0, 1, 2, 3, 4, 5, 6, 7, 8, 9] (.only 10 (.only 11 (.only 12 (.stop))))) (by kernel_rfl) (by kernel_rfl) (hB) ?_
        obtain ⟨wq, hwq⟩ : ∃ W, w8.drew = W := ⟨_, rfl⟩
        rw [hwq] at hB ⊢
        clear hwq
        repeat (
          refine plan_read rfl (fun K hK => ?_)
          first
            | (refine plan_neg ?_ ?_
               focus (go_simp; done)
               go_simp
               refine hK _ ?_
               clear hK K)
            | (apply plan_pos
               focus (go_simp; done)
               focus (
                 intro W hW
                 (first | obtain ⟨d0', d1'⟩ := HCE8.out W hW | skip)
                 go_simp
                 first
                   | done
                   | exact rfl)
               go_simp
               refine hK _ ?_
               clear hK K))
        refine plan_only rfl (fun Q hQ => ?_)
        go_wp2
        refine hQ _ _ (fun h => absurd h (by omega)) ?_
        clear hQ Q
        refine plan_only rfl (fun Q hQ => ?_)
        go_wp2
        refine hQ _ _ (fun h => absurd h (by omega)) ?_
        clear hQ Q
        refine plan_only rfl (fun Q hQ => ?_)
        go_wp2
        refine hQ _ _ (fun h => absurd h (by omega)) ?_
        clear hQ Q
        unfold Plan.wp
        go_wp2
        go_ret
        exact ⟨rfl, hB8.trans (hB.mono hB8.size)⟩

theorem own : ownKnob Try.prog.godebug = none := by kernel_rfl
theorem laidOut : laidOutB Try.prog = true := by kernel_rfl

set_option maxRecDepth 100000 in
theorem lifted (os : Os) (started : os.Started) (H : Type) (enc : TypeId × Value → H) :
    ReturnsInHanded {} Try.checked os 9 .any (Rows.lexWiderSpec.pre6 enc Try.prog Try.f9 Rows.lexWiderRow.domain false) (Rows.lexWiderSpec.post enc Try.prog Try.f9 false true false false) := by
  refine returnsInHanded_of_change_sized (C := Try.checked) own started (by kernel_rfl) Try.func9
    (ChangeSpec.witness6 (enc := enc) (C := Try.checked) false ⟨#[], #[.agg #[.int .i64 0, .slice none 0 0], .slice none 0 0, .int .i64 0], []⟩ 8 (by kernel_rfl) (by kernel_rfl) (by kernel_rfl) (by kernel_rfl)) ?_
  intro W base args ds gs before hval0 hW _ hsz0 _
  have hsz : (DataW.weightsEach Try.prog (Try.f9.params.toList ++ Rows.lexWiderSpec.plain.varTypes Try.prog) (ds ++ gs)).all (· ≤ reachBytes) = true := hsz0
  have hval : ∀ (j : Nat) t v, Try.f9.params[j]? = some t → args[j]? = some v → Value.okWide Try.prog W .any base t v := hval0
  have hW' := hW
  obtain ⟨p, q, hA0, hV, rfl, hfz, hnd⟩ := hW
  have hA : DataW.TrodAll enc Try.prog W 0 (fun _ => true) true Try.f9.params.toList args.toList ds p := hA0
  rw [Try.params9] at hA hval hsz
  obtain ⟨v0, vs0, d0, ds0, p0, q0, hargs, rfl, rfl, h0, r0⟩ := trodAll_cons hA
  obtain ⟨v1, vs1, d1, ds1, p1, q1, rfl, rfl, rfl, h1, r1⟩ := trodAll_cons r0
  obtain ⟨v2, vs2, d2, ds2, p2, q2, rfl, rfl, rfl, h2, r2⟩ := trodAll_cons r1
  obtain ⟨rfl, rfl, rfl⟩ := trodAll_nil r2
  obtain rfl : args = #[v0, v1, v2] := by cases args; simp_all
  obtain ⟨rfl, rfl⟩ := trodVars_none hV
  have k0 := h0
  have lt0 : ∀ x ∈ p0, x.block < W.heap.size := by obtain ⟨m, hm⟩ := k0; exact DataW.trod_lt m _ _ _ hm
  have k1 := h1
  have lt1 : ∀ x ∈ p1, x.block < W.heap.size := by obtain ⟨m, hm⟩ := k1; exact DataW.trod_lt m _ _ _ hm
  have k2 := h2
  have lt2 : ∀ x ∈ p2, x.block < W.heap.size := by obtain ⟨m, hm⟩ := k2; exact DataW.trod_lt m _ _ _ hm
  obtain ⟨n0, a0, len0, cap0, es0, rfl, b0⟩ := net_of (hval 0 24 v0 rfl rfl) k0 (weights_at hsz (j := 0) (t := 24) rfl rfl)
  obtain ⟨a1, len1, cap1, rfl⟩ := okWide_slice Try.underlying25 (hval 1 25 v1 rfl rfl)
  obtain ⟨z1, b1⟩ := ints_of k1 (weights_at hsz (j := 1) (t := 25) rfl rfl)
  obtain ⟨a2, rfl, rfl, rfl, w2⟩ := open_int Try.underlying3 (hval 2 3 v2 rfl rfl) h2
  have b2 := in_of_wf w2
  clear hA0 hval0 hsz0 hsz
  refine (walk n0 a0 len0 cap0 es0 a1 len1 cap1 z1 a2 W b0 b1 b2).mono fun e W' ⟨he, bel⟩ => ?_
  subst he
  exact ⟨_, rfl, _, _, _, [], _, [], hW', trodAll_mk1 (shut_bool Try.underlying4 _), (trodAll_cons_mk (Below.trod laidOut (by kernel_rfl) (of_decide_eq_true (by kernel_rfl)) k0 bel lt0) (trodAll_cons_mk (Below.trod laidOut (by kernel_rfl) (of_decide_eq_true (by kernel_rfl)) k1 bel lt1) (trodAll_cons_mk (Below.trod laidOut (by kernel_rfl) (of_decide_eq_true (by kernel_rfl)) k2 bel lt2) trodAll_mk0))), rfl, bel.frame _, fun h => by cases h⟩

theorem over : Rows.lexWiderRow.holds Try.pinned (OpenSpec.ofChange Rows.lexWiderSpec) :=
  OpenClaim.holds_of_wide 9 Try.f9 rfl rfl rfl rfl rfl rfl rfl ⟨rfl, rfl, rfl, rfl, rfl⟩ rfl rfl rfl rfl rfl (by kernel_rfl) Try.func9 (by kernel_rfl)
    (of_decide_eq_true (by kernel_rfl)) (by unfold Func.isWrapper; first | (rw [if_pos (by decide +kernel)]; kernel_rfl) | (rw [if_neg (by decide +kernel)]; exact ⟨rfl, rfl⟩))
    (fun os started H enc _ => lifted os started H enc)

theorem proved : Rows.LexWiderSaid := over
end Go.Proofs.Ytdkciaglbipcpaa.lawLWider
