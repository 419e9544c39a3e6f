/-
  The statement LexStays is proved for every network, every list of numbers and all lists of lists of numbers: what was filled, taken as ways, is the flow again. No condition.
-/
import Derived.Deep.DeepCutAuto
import Derived.Test.YthchlfoebkachaaFirst7
import Derived.Test.YthchlfoebkachaaWays7
import Derived.Test.YthchlfoebkachaaStay7
import Derived.Test.YthchlfoebkachaaOpen7
import Derived.Test.YthchlfoebkachaaFit
import Derived.Test.YthchlfoebkachaaOpen
import Derived.Test.YthchlfoebkachaaRef3
import Derived.Test.YthchlfoebkachaaQmax
import Derived.Test.YthchlfoebkachaaRows
namespace Go.Proofs.Ythchlfoebkachaa.lawLStays
open Go.ChangeShapes Go.WideShapes Go.ChangeAt Go.RowKit Gm

/-- What taken answers, both ways in one. -/
def OnePost (n : Nat) (es : List E) (m : Nat) (R : List Int) (base : Nat) (ra : Option Addr) (rl rc : Nat) (w : World) (e : Ending) (w' : World) : Prop :=
  ∃ (is : Bool) (ea : Option Addr) (el ec : Nat) (R3 l : List Int), e = .returned (.tuple #[wayV ea el ec 1, .bool is]) ∧ w'.ownsRow base 3 1 (.slice ra rl rc) rl (ints R3) ∧ w.grownBy w' (Value.slice ra rl rc).ownBlock ∧ (is = true → el = l.length ∧ R3 = lessF R l ∧ isWayF n es 0 1 (m : Int) (l, 1) = true ∧ Bears R l ∧ w'.ownsRow w.heap.size 3 1 (.slice ea el ec) el (ints l))
theorem TakenPost.one {n : Nat} {es : List E} {m : Nat} {R : List Int} {base : Nat} {ra : Option Addr} {rl rc : Nat} {w : World} {e : Ending} {w' : World} (h : TakenPost n es m R base ra rl rc w e w') : OnePost n es m R base ra rl rc w e w' := by
  rcases h with ⟨v, rfl, ⟨ea, el, ec, rfl⟩, h1, h2⟩ | ⟨l, ea, ec, rfl, h1, h2, h3, h4, h5⟩
  · exact ⟨false, ea, el, ec, R, [], rfl, h1, h2, fun h => by cases h⟩
  · exact ⟨true, ea, l.length, ec, lessF R l, l, rfl, h4, h5, fun _ => ⟨rfl, rfl, h1, h2, h3⟩⟩
def CutPost (n : Nat) (es : List E) (m : Nat) (R : List Int) (base : Nat) (ra : Option Addr) (rl rc : Nat) (w9 : World) (s18 s19 : Value) (wx : World) : Prop :=
  ∃ (T : Nat) (is : Bool) (ea : Option Addr) (el ec : Nat) (R3 l : List Int), s18 = .pointer (some ⟨T, 0, none⟩) ∧ s19 = .bool is ∧ w9.heap.size ≤ T ∧ Blk wx T 44 #[.slice ea el ec, .int .i64 1] ∧ wx.ownsRow base 3 1 (.slice ra rl rc) rl (ints R3) ∧ w9.grownBy wx (Value.slice ra rl rc).ownBlock ∧ (is = true → el = l.length ∧ R3 = lessF R l ∧ isWayF n es 0 1 (m : Int) (l, 1) = true ∧ Bears R l ∧ wx.ownsRow w9.heap.size 3 1 (.slice ea el ec) el (ints l))

set_option maxRecDepth 100000 in
set_option maxHeartbeats 8000000 in
theorem walk (v : Int) (a : Option Addr) (len cap : Nat) (es : List E) (ra : Option Addr) (rlen rcap : Nat) (raw : List Int) (ya : Option Addr) (yl yc : Nat) (yss : List (List Int)) (w : World) (h0 : I64 v ∧ NetAt w.heap.size w a len es ∧ Wide es) (h1 : FlowAt w.heap.size w ra rlen raw ∧ ∀ x ∈ raw, I64 x) (h2 : IntssAt w.heap.size w ya yl yss) :
    Calls Try.prog 6 #[netV v a len cap, .slice ra rlen rcap, .slice ya yl yc] w fun e w' => e = .returned (.bool true) ∧ Below w.heap.size w w' := by
  obtain ⟨hv, hE, hW⟩ := h0
  obtain ⟨hR, hraw⟩ := h1
  obtain ⟨W0, hW0⟩ : ∃ W0, w.alloc (.cells #[.int .i64 v, .slice a len cap] 24) = W0 := ⟨_, rfl⟩
  have hB0 : Below w.heap.size w W0 := by rw [← hW0]; exact (Below.refl _ w).alloc (Nat.le_refl _) _
  have bN : Blk W0 w.heap.size 24 #[.int .i64 v, .slice a len cap] := by rw [← hW0]; exact Blk.new w _ _
  have HW0 := Lib.hid hW0
  have HV := Lib.hid hv
  have HE := Lib.hid hE
  have HWI := Lib.hid hW
  have HR := Lib.hid hR
  have HRAW := Lib.hid hraw
  have hN := fitN_bd v
  obtain ⟨n, hn⟩ : ∃ n : Nat, fitN v = n := ⟨(fitN v).toNat, by omega⟩
  rw [hn] at hN
  have HRT := Lib.hid (fit_right v es)
  rw [hn] at HRT
  have HNN := Lib.hid hn
  have HY := Lib.hid h2
  have hz0 := hB0.size
  clear h2 hW0 hv hE hW hR hraw hn
  go_enter Try.func6, Try.ntmps6
  go_upto_region 3 with (first
    | (go_at_call 9; rw [HW0.out]; (with_reducible refine (awake7_any _).mono ?_); rintro e w1 ⟨rfl, hb1⟩
       have bN1 := bN.below hb1 bN.lt
       have hB1 : Below w.heap.size w w1 := hB0.trans (hb1.mono hz0)
       obtain ⟨lN1, n0, n1⟩ := bN1.two)
    | (go_at_call 13; (with_reducible refine (fit_any _ _ _ _ es _ ((HE.out.below hB1).more hB1.size) HV.out HWI.out).mono ?_); rintro e w2 ⟨a2, cap2, rfl, hE2, hb2⟩
       rw [HNN.out] at hE2 ⊢
       have hB2 : Below w.heap.size w w2 := hB1.trans (hb2.mono hB1.size)
       have lN2 : w2.heap.size < w2.heap.size + 1 := by omega))
  obtain ⟨F, hF⟩ : ∃ F, fitEs n es = F := ⟨_, rfl⟩
  rw [hF] at hE2 HRT ⊢
  obtain ⟨fl, hfl⟩ : ∃ fl, F.length = fl := ⟨_, rfl⟩
  rw [hfl] at hE2 ⊢
  have HFL := Lib.hid hfl
  have hflb : fl ≤ 256 := by rw [← hfl]; exact fes_len HRT.out
  obtain ⟨w3, hw3⟩ : ∃ W, w2.alloc (.cells #[.int .i64 (n : Int), .slice a2 fl cap2] 24) = W := ⟨_, rfl⟩
  have bM : Blk w3 w2.heap.size 24 #[.int .i64 (n : Int), .slice a2 fl cap2] := hw3 ▸ Blk.new w2 _ _
  have hB3 : Below w.heap.size w w3 := hw3 ▸ hB2.alloc hB2.size _
  have HE3 : Hid (NetAt w3.heap.size w3 a2 fl F) := Lib.hid (net_on hE2 (hw3 ▸ (Below.refl _ w2).alloc (Nat.le_refl _) _))
  have hz3 := hB3.size
  have HR3 := Lib.hid ((HR.out.below hB3).more hz3)
  have HY3 := Lib.hid ((HY.out.below hB3).more hz3)
  rw [hw3]
  obtain ⟨lM, m0, m1⟩ := bM.two
  clear hF hfl hw3 hE2 hb1 hb2 bN bN1 lN1 n0 n1 hB0 hB1 hB2 lN2 hz0
  go_upto_region 4 with (go_at_call 14; (with_reducible refine (order_any n _ _ _ F _ _ _ raw _ HE3.out HR3.out HRAW.out (by omega)).mono ?_); rintro e w4 ⟨oa, oc, o, rfl, hO4, hoc, hperm, hb4⟩)
  have bM4 := bM.below hb4 bM.lt
  obtain ⟨lM4, m40, m41⟩ := bM4.two
  have HE4 := Lib.hid (net_on HE3.out hb4)
  have HO4 := Lib.hid hO4
  have HY4 := Lib.hid ((HY3.out.below hb4).more hb4.size)
  have hB4 := hB3.trans (hb4.mono hz3)
  have hz4 := hB4.size
  have HPERM := Lib.hid hperm
  have hol : o.length ≤ 256 := by have := order_len hperm; rw [HFL.out] at this; omega
  have HSRC := Lib.hid (order_src hperm)
  have hcells : ∀ W, Below w4.heap.size w4 W → W.cell? ⟨w2.heap.size, 0, none⟩ = some (.int .i64 (n : Int)) ∧ W.cell? ⟨w2.heap.size, 1, none⟩ = some (.slice a2 fl cap2) := fun W h => (bM4.below h lM4).two.2
  have HCE := Lib.hid hcells
  clear hO4 hb4 hperm m0 m1 m40 m41 hcells bM
  have hB := below_drew (Below.refl w4.heap.size w4)
  refine region_mix (fun W => Below w4.heap.size w4 W) (13) (.reads [0, 1, 2, 3, 4] (.only 5 (.only 6 (.reads [7, 8, 9, 10, 11, 12] (.only 13 (.stop)))))) (by kernel_rfl) (by kernel_rfl) (hB) ?_
  obtain ⟨wq, hwq⟩ : ∃ W, w4.drew = W := ⟨_, rfl⟩
  rw [hwq] at hB ⊢
  clear hwq
  repeat (
    refine plan_read rfl (fun K hK => ?_)
    first
      | (refine plan_neg ?_ ?_
         focus (go_simp; done)
         go_simp
         refine hK _ ?_
         clear hK K)
      | (apply plan_pos
         focus (go_simp; done)
         focus (
           intro W hW
           (first | obtain ⟨d0, d1⟩ := HCE.out W hW | skip)
           go_simp
           first
             | done
             | exact rfl)
         go_simp
         refine hK _ ?_
         clear hK K))
  refine plan_only rfl (fun Q hQ => ?_)
  go_wp2_with (go_at_call 15; (with_reducible refine (ways_any n _ _ _ F _ _ _ o _ _ _ yss _ (net_on HE4.out hB) (flow_on HO4.out hB) ((HY4.out.below hB).more hB.size) HRT.out HSRC.out hol).mono ?_); rintro e wd ⟨wa, wc, wss, rfl, hWW, hwl, hwok, hb⟩)
  replace hB := hB.trans (hb.mono hB.size)
  have HWW := Lib.hid hWW
  have HFO := Lib.hid (made_form HRT.out HPERM.out hwl (fun i hi => (hwok i hi).1))
  have HR1 := Lib.hid (fillF_form HFO.out)
  refine hQ _ _ (fun _ => hB) ?_
  clear hQ Q hb hWW hwl hwok
  refine plan_only rfl (fun Q hQ => ?_)
  go_wp2_with (go_at_call 10; (with_reducible refine (fill_any _ _ _ _ F 0 1 _ _ _ o _ _ _ wss _ (net_on HE4.out hB) (flow_on HO4.out hB) HWW.out).mono ?_); rw [HR1.out]; rintro e w5 ⟨pa, pl, pc, ga, gl, gc, he, hP5, hG5, hgc5, hb⟩
               dsimp only at he hP5 hG5
               subst he)
  obtain rfl : o.length = gl := by have := hG5.1; rw [gotF_len] at this; exact this
  have HP5 := Lib.hid hP5
  have HG5 := Lib.hid hG5
  replace hB := hB.trans (hb.mono hB.size)
  refine hQ _ _ (fun _ => hB) ?_
  clear hQ Q hb hP5 hG5 HWW
  repeat (
    refine plan_read rfl (fun K hK => ?_)
    first
      | (refine plan_neg ?_ ?_
         focus (go_simp; done)
         go_simp
         refine hK _ ?_
         clear hK K)
      | (apply plan_pos
         focus (go_simp; done)
         focus (
           intro W hW
           (first | obtain ⟨d0, d1⟩ := HCE.out W hW | skip)
           go_simp
           first
             | done
             | exact rfl)
         go_simp
         refine hK _ ?_
         clear hK K))
  refine plan_only rfl (fun Q hQ => ?_)
  go_wp2
  refine hQ _ _ (fun h => absurd h (by omega)) ?_
  clear hQ Q
  unfold Plan.wp
  have hB5 := hB4.trans (hB.mono hz4)
  have hz5 := hB5.size
  have bM5 := bM4.below hB lM4
  obtain ⟨lM5, m50, m51⟩ := bM5.two
  have HE5 := Lib.hid (net_on HE4.out hB)
  have HO5 := Lib.hid (flow_on HO4.out hB)
  obtain ⟨P, hP⟩ : ∃ P, fillE n F 0 1 o wss = P := ⟨_, rfl⟩
  have hgoodP := (fill_stage HFO.out o.length (Nat.le_refl _)).1.good.whole HFO.out.net
  have hPlen : (fillE n F 0 1 o wss).length = F.length := hgoodP.len
  have hPat : ∀ e, e < F.length → 0 ≤ fa (fillE n F 0 1 o wss) e ∧ fa (fillE n F 0 1 o wss) e ≤ 1000 := fun e he => by
    have h1 := hgoodP.at he
    have h2 := (okE_iff.1 ((right_iff.1 HRT.out).2.2.2 _ (ed_mem he))).2.2.2.2.2.2
    exact ⟨h1.1, Int.le_trans h1.2 h2⟩
  have HGD : Hid (good n F P 0 1 = true) := Lib.hid (by rw [← hP]; exact goodG_iff.2 hgoodP)
  rw [hP] at HP5 HG5 hPlen hPat
  have HPP := Lib.hid hP
  have HST0 : Hid (StayAt n F o P P []) := Lib.hid (StayAt.zero hPlen hPat)
  have hplf : fl = pl := by
    have h1 := HP5.out.1
    rw [hPlen, HFL.out] at h1
    exact h1
  subst hplf
  have t1 : ((fl : Int) != (fl : Int)) = false := by simp
  have hn64 : n ≤ 64 := by have := (right_iff.1 HRT.out).2.1; omega
  have hcells : ∀ W, Below w5.heap.size w5 W → W.cell? ⟨w2.heap.size, 0, none⟩ = some (.int .i64 (n : Int)) ∧ W.cell? ⟨w2.heap.size, 1, none⟩ = some (.slice a2 fl cap2) := fun W h => (bM5.below h lM5).two.2
  have HCE5 := Lib.hid hcells
  clear hP hgoodP hPlen hPat HCE hB m50 m51 hcells
  obtain ⟨lM5', m50, m51⟩ := bM5.two
  go_upto_region 7 with (go_at_call 16; (with_reducible refine (qgood_any _ _ _ _ F _ _ _ P 0 1 _ HE5.out HP5.out).mono ?_); rw [HGD.out]; rintro e w6 ⟨rfl, hb6⟩)
  clear t1 m50 m51 HCE5
  have hB6 := hB5.trans (hb6.mono hz5)
  have hz6 := hB6.size
  have bM6 := bM5.below hb6 lM5
  have lM6 := bM6.lt
  have HE6 := Lib.hid (net_on HE5.out hb6)
  have HO6 := Lib.hid (flow_on HO5.out hb6)
  have HP6 := Lib.hid (flow_on HP5.out hb6)
  have HG6 := Lib.hid (flow_on HG5.out hb6)
  clear hb6
  obtain ⟨v', w7, hr, hown, hg7⟩ := append_nil_ints (cap := pc) HP6.out (by omega) 25 w6.heap.size (Nat.le_refl _)
  obtain ⟨xa, xc, rfl⟩ := own_form hown
  have hb67 : Below w6.heap.size w6 w7 := (Below.refl _ w6).grown hg7 (Nat.le_refl _) (fun k e => by cases e)
  have hz67 := hb67.size
  have HOWN7 := Lib.hid hown
  have HST : Hid (∀ g, (Value.slice xa fl xc).ownBlock = some g → w6.heap.size ≤ g ∧ g < w7.heap.size) := Lib.hid (fun g e => hown.lt g e)
  clear hown hg7
  go_wp2_with (
    at_builtin
    refine wpList_append_run (by rfl) (.const (.slice none 0 0)) (.tmp 61) 25 25 (by rfl) (by rfl) (by rfl) hr ?_
    clear hr)
  obtain ⟨i1, hi1, hy0, hy1, hy2⟩ := info_parts infoWay
  obtain ⟨i2, hi2, hs0, hs1, hs2⟩ := info_parts infoWays
  go_loopw [14, 15] (fun av kv wr => ∃ (i : Nat) (vss : List (List WayE)) (R : List Int) (aw : Value), av = aw ∧ i ≤ o.length ∧ kv = .int .i64 i ∧ Hid (vss.length = i) ∧ Hid (StayAt n F o P R vss) ∧ wr.ownsRow w6.heap.size 3 1 (.slice xa fl xc) fl (ints R) ∧ WayssOwn wr w7.heap.size aw vss ∧ Below w6.heap.size w6 wr ∧ w7.heap.size ≤ wr.heap.size) (fun _ kv _ => o.length - (intOf kv).toNat)
  case atStart => exact ⟨0, [], P, _, rfl, Nat.zero_le _, rfl, Lib.hid rfl, HST0, HOWN7.out, WayssOwn.nil _ _, hb67, Nat.le_refl _⟩
  case round =>
    clear hb67 hz67
    obtain ⟨i, vss, R, av, rfl, hi, rfl, hvl, hst, hrest, hall, hB, hz78⟩ := hrel
    obtain ⟨w8, rfl⟩ : ∃ w', w' = wr := ⟨_, rfl⟩
    have hz68 := hB.size
    have HREST := Lib.hid hrest
    have HALL := Lib.hid hall
    clear hrest hall
    by_cases hlt : i < o.length
    · have hii : (i : Int) < (o.length : Int) := by omega
      obtain ⟨ob, oo, hoa, hoc2⟩ := HO6.out.2.2.int
      obtain ⟨hob, co⟩ := hoc2 i hlt
      obtain rfl : oa = some ⟨ob, oo, none⟩ := by
        rcases hoa with h | h
        · omega
        · exact h
      have hsx := isSrc_iff.1 (HSRC.out _ (List.getElem_mem hlt))
      have hox : o[i]?.getD 0 = o[i] := by rw [List.getElem?_eq_getElem hlt]; rfl
      obtain ⟨m, hm⟩ : ∃ m : Nat, o[i] = (m : Int) := ⟨o[i].toNat, by omega⟩
      rw [hm] at hsx hox
      rw [hox] at co
      have hmF : m < F.length := by have := hsx.2.1; omega
      have hmfl : m < fl := by rw [← HFL.out]; exact hmF
      have hms : (ed F m).1 = 0 := by have := hsx.2.2; rwa [Int.toNat_natCast] at this
      have HOX := Lib.hid hox
      have HMS := Lib.hid hms
      have HMF := Lib.hid hmF
      have HCO := Lib.hid co
      have hmI : (m : Int) < (fl : Int) := by omega
      clear hoa hoc2 hsx hox hm co hms
      clear hmF
      go_wp2
      go_loopw [16, 17] (fun lv kv wr => ∃ (k : Nat) (ws : List WayE) (R2 : List Int) (lw : Value), lv = lw ∧ k ≤ 1000 ∧ kv = .int .i64 k ∧ ws.length ≤ k ∧ Hid (StayIn n F (m : Int) P R2 vss ws) ∧ wr.ownsRow w6.heap.size 3 1 (.slice xa fl xc) fl (ints R2) ∧ WaysOwn wr w8.heap.size lw ws ∧ w8.grownBy wr (Value.slice xa fl xc).ownBlock) (fun _ kv _ => 1000 - (intOf kv).toNat)
      case atStart => exact ⟨0, [], R, _, rfl, by omega, rfl, Nat.le_refl _, Lib.hid (hst.out.inn _), HREST.out, WaysOwn.nil _ _, World.grownBy.refl _ _⟩
      case round =>
        obtain ⟨k, ws, R2, lv, rfl, hk, rfl, hwl, hin, hrest2, hways, hg⟩ := hrel
        obtain ⟨w9, rfl⟩ : ∃ w', w' = wr := ⟨_, rfl⟩
        have hz89 := hg.size
        have hB9 : Below w6.heap.size w6 w9 := hB.grown hg hz68 (fun g e => (HST.out g e).1)
        have HREST2 := Lib.hid hrest2
        have HWAYS := Lib.hid hways
        have HG := Lib.hid hg
        have hR2l : R2.length = fl := by rw [hin.out.len, HFL.out]
        have HR2L := Lib.hid hR2l
        have co9 : w9.cell? ⟨ob, oo + i, none⟩ = some (.int .i64 (m : Int)) := (hB9.cell (p := ⟨ob, oo + i, none⟩) hob).trans HCO.out
        have hob9 : ob < w9.heap.size := Nat.lt_of_lt_of_le hob hB9.size
        obtain ⟨rg, hrg, hrg0, hrg1, cr⟩ := own_int (by rw [hR2l]; exact hrest2) (show m < R2.length by rw [hR2l]; exact hmfl)
        have hrg7 := (HST.out rg (by rw [hrg]; rfl)).2
        have cr' : w9.cell? ⟨rg, m, none⟩ = some (.int .i64 (fa R2 m)) := cr
        obtain ⟨f, hf⟩ : ∃ f, fa R2 m = f := ⟨_, rfl⟩
        rw [hf] at cr'
        have HF := Lib.hid hf
        have HRG := Lib.hid hrg
        clear hrest2 hways hg hR2l cr hf
        by_cases hgo : k < 1000 ∧ 0 < f
        · obtain ⟨hk1, hf0⟩ := hgo
          subst hrg
          have t1 : decide ((k : Int) < 1000) = true := by simp; omega
          have t2 : decide (0 < f) = true := by simp [hf0]
          have hnb : ∀ q : Nat, q < w6.heap.size → some q ≠ (Value.slice (some ⟨rg, 0, none⟩) fl xc).ownBlock := fun q hq e => by
            have := (HST.out q e.symm).1
            omega
          have hcells : ∀ W, w9.grownBy W (Value.slice (some ⟨rg, 0, none⟩) fl xc).ownBlock → W.cell? ⟨w2.heap.size, 0, none⟩ = some (.int .i64 (n : Int)) ∧ W.cell? ⟨w2.heap.size, 1, none⟩ = some (.slice a2 fl cap2) ∧ W.cell? ⟨ob, oo + i, none⟩ = some (.int .i64 (m : Int)) := fun W h =>
            ⟨h.cell (bM6.below hB9 lM6).two.2.1 (hnb _ lM6), h.cell (bM6.below hB9 lM6).two.2.2 (hnb _ lM6), h.cell co9 (hnb _ hob)⟩
          have HCE := Lib.hid hcells
          clear hcells hnb
          go_upto_region 16 with fail
          clear t1 t2 cr' co9
          go_cut [18, 19] from 84 to 92 (fun s18 s19 wx => CutPost n F m R2 w6.heap.size (some ⟨rg, 0, none⟩) fl xc w9 s18 s19 wx)
          case first =>
            have hC : w9.grownBy w9.drew (Value.slice (some ⟨rg, 0, none⟩) fl xc).ownBlock := ⟨rfl, rfl, rfl, Nat.le_refl _, fun _ _ _ => rfl⟩
            have hrow : w9.drew.ownsRow w6.heap.size 3 1 (.slice (some ⟨rg, 0, none⟩) fl xc) fl (ints R2) := own_below HREST2.out (below_drew (Below.refl _ w9))
            refine region_mix (fun W => w9.grownBy W (Value.slice (some ⟨rg, 0, none⟩) fl xc).ownBlock) (12) (.reads [0, 1, 2, 3, 4, 5] (.fork 6 (.reads [7, 8, 9] (.only 10 (.only 11 (.only 12 (.stop))))) 10 (.only 6 (.reads [7, 8, 9] (.only 11 (.only 12 (.stop))))))) (by kernel_rfl) (by kernel_rfl) (hC) ?_
            obtain ⟨wq, hwq⟩ : ∃ W, w9.drew = W := ⟨_, rfl⟩
            rw [hwq] at hC hrow ⊢
            clear hwq
            repeat (
              refine plan_read rfl (fun K hK => ?_)
              first
                | (refine plan_neg ?_ ?_
                   focus (go_simp; done)
                   go_simp
                   refine hK _ ?_
                   clear hK K)
                | (apply plan_pos
                   focus (go_simp; done)
                   focus (
                     intro W hW
                     (first | obtain ⟨d0, d1, d2⟩ := HCE.out W hW | skip)
                     go_simp
                     first
                       | done
                       | exact rfl)
                   go_simp
                   refine hK _ ?_
                   clear hK K))
            refine plan_fork rfl rfl (fun Q hQ => ?_) (fun Q hQ => ?_)
            · have hB6q : Below w6.heap.size w6 wq := hB9.grown hC hB9.size (fun g e => (HST.out g e).1)
              have HEQ := Lib.hid (HE6.out.below hB6q)
              have hz6q := hB6q.size
              have HROWQ := Lib.hid hrow
              go_wp2_with (go_at_call 19; (with_reducible refine (taken_any n _ _ _ F _ _ _ w6.heap.size R2 m _ HEQ.out hz6q HROWQ.out HRT.out hin.out.len HMF.out HMS.out (fun e he => ⟨hin.out.lo e he, hin.out.hi e he⟩) (by rw [HF.out]; exact hf0)).mono ?_); rintro e wd hpost
                           obtain ⟨is, ea, el, ec, R3, l, rfl, hrow3, hg3, himp3⟩ := TakenPost.one hpost)
              have himp : is = true → el = l.length ∧ R3 = lessF R2 l ∧ isWayF n F 0 1 (m : Int) (l, 1) = true ∧ Bears R2 l ∧ wd.ownsRow w9.heap.size 3 1 (.slice ea el ec) el (ints l) := fun h => ⟨(himp3 h).1, (himp3 h).2.1, (himp3 h).2.2.1, (himp3 h).2.2.2.1, own_less (himp3 h).2.2.2.2 hC.size⟩
              try replace h11 := h11.kept hg3 (fun e => by
                have := (HST.out _ e.symm).2
                omega)
              replace hrow := hrow3
              replace hC := hC.trans hg3
              refine hQ _ _ (fun _ => hC) ?_
              clear hQ Q hrow3 hg3 himp3 HEQ HROWQ hB6q hz6q
              obtain ⟨wq, rfl⟩ : ∃ W, W = wd := ⟨_, rfl⟩
              repeat (
                refine plan_read rfl (fun K hK => ?_)
                first
                  | (refine plan_neg ?_ ?_
                     focus (go_simp; done)
                     go_simp
                     refine hK _ ?_
                     clear hK K)
                  | (apply plan_pos
                     focus (go_simp; done)
                     focus (
                       intro W hW
                       (first | obtain ⟨d0, d1, d2⟩ := HCE.out W hW | skip)
                       go_simp
                       first
                         | done
                         | exact rfl)
                     go_simp
                     refine hK _ ?_
                     clear hK K))
              refine plan_only rfl (fun Q hQ => ?_)
              go_wp2
              have h11 := Blk.new wq 44 #[.slice none 0 0, .int .i64 0]
              have hT := hC.size
              replace hC := hC.trans (World.grownBy_alloc wq (.cells #[.slice none 0 0, .int .i64 0] 44) _)
              replace hrow := hrow.alloc (.cells #[.slice none 0 0, .int .i64 0] 44)
              try replace himp := fun h => let q := himp h; (⟨q.1, q.2.1, q.2.2.1, q.2.2.2.1, q.2.2.2.2.alloc (.cells #[.slice none 0 0, .int .i64 0] 44)⟩ : el = l.length ∧ R3 = lessF R2 l ∧ isWayF n F 0 1 (m : Int) (l, 1) = true ∧ Bears R2 l ∧ (wq.alloc (.cells #[.slice none 0 0, .int .i64 0] 44)).ownsRow w9.heap.size 3 1 (.slice ea el ec) el (ints l))
              refine hQ _ _ (fun _ => hC) ?_
              clear hQ Q
              generalize wq.alloc (.cells #[.slice none 0 0, .int .i64 0] 44) = wd at *
              generalize wq.heap.size = T at *
              obtain ⟨wq, rfl⟩ : ∃ W, W = wd := ⟨_, rfl⟩
              refine plan_only rfl (fun Q hQ => ?_)
              obtain ⟨lT, y0, y1⟩ := h11.two
              have yf0 := h11.frozen 0
              have yf1 := h11.frozen 1
              go_wp2
              have hn1 := own_blk_ne hrow h11 (by decide)
              replace hrow := ownsRow_setCell_other (ownsRow_setCell_other hrow (a := ⟨T, 0, none⟩) hn1 (.slice ea el ec)) (a := ⟨T, 1, none⟩) hn1 (.int .i64 1)
              replace himp := fun h => let q := himp h; (⟨q.1, q.2.1, q.2.2.1, q.2.2.2.1, ownsRow_setCell_other (ownsRow_setCell_other q.2.2.2.2 (a := ⟨T, 0, none⟩) (own_blk_ne q.2.2.2.2 h11 (by decide)) (.slice ea el ec)) (a := ⟨T, 1, none⟩) (own_blk_ne q.2.2.2.2 h11 (by decide)) (.int .i64 1)⟩ : el = l.length ∧ R3 = lessF R2 l ∧ isWayF n F 0 1 (m : Int) (l, 1) = true ∧ Bears R2 l ∧ ((wq.setCell ⟨T, 0, none⟩ (.slice ea el ec)).setCell ⟨T, 1, none⟩ (.int .i64 1)).ownsRow w9.heap.size 3 1 (.slice ea el ec) el (ints l))
              replace h11 := (h11.set 0 (.slice ea el ec)).set 1 (.int .i64 1)
              have hbT := ((Below.refl w9.heap.size wq).setCell (p := ⟨T, 0, none⟩) hT (.slice ea el ec)).setCell (p := ⟨T, 1, none⟩) hT (.int .i64 1)
              replace hC : w9.grownBy _ (Value.slice (some ⟨rg, 0, none⟩) fl xc).ownBlock := ⟨hbT.os.trans hC.os, hbT.tape.trans hC.tape, hbT.output.trans hC.output, Nat.le_trans hC.size hbT.size, fun k hk hne => (hbT.block k hk).trans (hC.block k hk hne)⟩
              refine hQ _ _ (fun _ => hC) ?_
              clear hQ Q y0 y1 yf0 yf1 hn1 hbT
              refine plan_only rfl (fun Q hQ => ?_)
              go_wp2
              refine hQ _ _ (fun h => absurd h (by omega)) ?_
              clear hQ Q
              unfold Plan.wp
              go_wp2_with fail
              go_meet
              exact ⟨T, is, ea, el, ec, R3, l, rfl, rfl, hT, h11, hrow, hC, himp⟩
            · go_wp2
              have h11 := Blk.new wq 44 #[.slice none 0 0, .int .i64 0]
              have hT := hC.size
              replace hC := hC.trans (World.grownBy_alloc wq (.cells #[.slice none 0 0, .int .i64 0] 44) _)
              replace hrow := hrow.alloc (.cells #[.slice none 0 0, .int .i64 0] 44)
              try replace himp := fun h => let q := himp h; (⟨q.1, q.2.1, q.2.2.1, q.2.2.2.1, q.2.2.2.2.alloc (.cells #[.slice none 0 0, .int .i64 0] 44)⟩ : el = l.length ∧ R3 = lessF R2 l ∧ isWayF n F 0 1 (m : Int) (l, 1) = true ∧ Bears R2 l ∧ (wq.alloc (.cells #[.slice none 0 0, .int .i64 0] 44)).ownsRow w9.heap.size 3 1 (.slice ea el ec) el (ints l))
              refine hQ _ _ (fun _ => hC) ?_
              clear hQ Q
              generalize wq.alloc (.cells #[.slice none 0 0, .int .i64 0] 44) = wd at *
              generalize wq.heap.size = T at *
              obtain ⟨wq, rfl⟩ : ∃ W, W = wd := ⟨_, rfl⟩
              refine plan_only rfl (fun Q hQ => ?_)
              have hB6q : Below w6.heap.size w6 wq := hB9.grown hC hB9.size (fun g e => (HST.out g e).1)
              have HEQ := Lib.hid (HE6.out.below hB6q)
              have hz6q := hB6q.size
              have HROWQ := Lib.hid hrow
              go_wp2_with (go_at_call 19; (with_reducible refine (taken_any n _ _ _ F _ _ _ w6.heap.size R2 m _ HEQ.out hz6q HROWQ.out HRT.out hin.out.len HMF.out HMS.out (fun e he => ⟨hin.out.lo e he, hin.out.hi e he⟩) (by rw [HF.out]; exact hf0)).mono ?_); rintro e wd hpost
                           obtain ⟨is, ea, el, ec, R3, l, rfl, hrow3, hg3, himp3⟩ := TakenPost.one hpost)
              have himp : is = true → el = l.length ∧ R3 = lessF R2 l ∧ isWayF n F 0 1 (m : Int) (l, 1) = true ∧ Bears R2 l ∧ wd.ownsRow w9.heap.size 3 1 (.slice ea el ec) el (ints l) := fun h => ⟨(himp3 h).1, (himp3 h).2.1, (himp3 h).2.2.1, (himp3 h).2.2.2.1, own_less (himp3 h).2.2.2.2 hC.size⟩
              try replace h11 := h11.kept hg3 (fun e => by
                have := (HST.out _ e.symm).2
                omega)
              replace hrow := hrow3
              replace hC := hC.trans hg3
              refine hQ _ _ (fun _ => hC) ?_
              clear hQ Q hrow3 hg3 himp3 HEQ HROWQ hB6q hz6q
              obtain ⟨wq, rfl⟩ : ∃ W, W = wd := ⟨_, rfl⟩
              repeat (
                refine plan_read rfl (fun K hK => ?_)
                first
                  | (refine plan_neg ?_ ?_
                     focus (go_simp; done)
                     go_simp
                     refine hK _ ?_
                     clear hK K)
                  | (apply plan_pos
                     focus (go_simp; done)
                     focus (
                       intro W hW
                       (first | obtain ⟨d0, d1, d2⟩ := HCE.out W hW | skip)
                       go_simp
                       first
                         | done
                         | exact rfl)
                     go_simp
                     refine hK _ ?_
                     clear hK K))
              refine plan_only rfl (fun Q hQ => ?_)
              obtain ⟨lT, y0, y1⟩ := h11.two
              have yf0 := h11.frozen 0
              have yf1 := h11.frozen 1
              go_wp2
              have hn1 := own_blk_ne hrow h11 (by decide)
              replace hrow := ownsRow_setCell_other (ownsRow_setCell_other hrow (a := ⟨T, 0, none⟩) hn1 (.slice ea el ec)) (a := ⟨T, 1, none⟩) hn1 (.int .i64 1)
              replace himp := fun h => let q := himp h; (⟨q.1, q.2.1, q.2.2.1, q.2.2.2.1, ownsRow_setCell_other (ownsRow_setCell_other q.2.2.2.2 (a := ⟨T, 0, none⟩) (own_blk_ne q.2.2.2.2 h11 (by decide)) (.slice ea el ec)) (a := ⟨T, 1, none⟩) (own_blk_ne q.2.2.2.2 h11 (by decide)) (.int .i64 1)⟩ : el = l.length ∧ R3 = lessF R2 l ∧ isWayF n F 0 1 (m : Int) (l, 1) = true ∧ Bears R2 l ∧ ((wq.setCell ⟨T, 0, none⟩ (.slice ea el ec)).setCell ⟨T, 1, none⟩ (.int .i64 1)).ownsRow w9.heap.size 3 1 (.slice ea el ec) el (ints l))
              replace h11 := (h11.set 0 (.slice ea el ec)).set 1 (.int .i64 1)
              have hbT := ((Below.refl w9.heap.size wq).setCell (p := ⟨T, 0, none⟩) hT (.slice ea el ec)).setCell (p := ⟨T, 1, none⟩) hT (.int .i64 1)
              replace hC : w9.grownBy _ (Value.slice (some ⟨rg, 0, none⟩) fl xc).ownBlock := ⟨hbT.os.trans hC.os, hbT.tape.trans hC.tape, hbT.output.trans hC.output, Nat.le_trans hC.size hbT.size, fun k hk hne => (hbT.block k hk).trans (hC.block k hk hne)⟩
              refine hQ _ _ (fun _ => hC) ?_
              clear hQ Q y0 y1 yf0 yf1 hn1 hbT
              refine plan_only rfl (fun Q hQ => ?_)
              go_wp2
              refine hQ _ _ (fun h => absurd h (by omega)) ?_
              clear hQ Q
              unfold Plan.wp
              go_wp2_with fail
              go_meet
              exact ⟨T, is, ea, el, ec, R3, l, rfl, rfl, hT, h11, hrow, hC, himp⟩
          case rest =>
            obtain ⟨T, is, ea, el, ec, R3, l, rfl, rfl, hT, h11, hrow, hC, himp⟩ := hcut
            obtain ⟨w10, rfl⟩ : ∃ w', w' = wc := ⟨_, rfl⟩
            have hB10 : Below w6.heap.size w6 w10 := hB9.grown hC hB9.size (fun g e => (HST.out g e).1)
            have HG10 := Lib.hid (HG.out.trans hC)
            have hz10 := hC.size
            rcases is with _ | _
            · go_wp2
              go_ret
              exact ⟨rfl, hB6.trans (hB10.mono hz6)⟩
            · obtain ⟨rfl, rfl, hway, hbears, hrowE⟩ := himp rfl
              have HNEXT := Lib.hid (hin.out.next HRT.out hway hbears)
              obtain ⟨vs, hvl2, hlrow, hrows⟩ := HWAYS.out.kept_low hC (fun g e => by have := (HST.out g e).2; omega)
              have HROWS := Lib.hid hrows
              have HVL := Lib.hid hvl2
              have HLROW := Lib.hid hlrow
              have HROWE := Lib.hid hrowE
              have HROW := Lib.hid hrow
              have hoT := hlrow.alloc (.cells #[.slice ea l.length ec, .int .i64 1] 44)
              obtain ⟨lT, x0, x1⟩ := h11.two
              have hz810 : w8.heap.size ≤ w10.heap.size := Nat.le_trans hz89 hz10
              clear himp hway hbears hvl2 hlrow hrows hrowE hrow
              go_wp2_with (
                at_builtin
                refine wpList_append_lies _ (by rfl) (.tmp 95) (.tmp 97) 42 (by rfl) w8.heap.size 44 i1 _ 2 32 Try.underlying42 hi1 hy0 hy1 hy2 rfl (by decide) _ ws.length (wayCells vs ws) (by rfl) hoT ⟨w10.heap.size, 0, none⟩ 1 1 [.slice ea l.length ec, .int .i64 1] (by rfl) (by rfl) (cells_two _ _ _ _) (by simp [Value.oneCell']) (by omega) (by simp [maxLen]; omega) (by omega) (by simp; omega) (w10.heap.size + 1) (by simp) ?_
                intro g2 cap2' w11 hoT9 hg9 hloc9 hlt9)
              go_roundw
              case rel =>
                have hga : w10.grownBy w11 _ := (World.grownBy_alloc w10 _ _).trans hg9
                have hlow : ∀ g, _ = some g → w8.heap.size ≤ g := fun g e => (HLROW.out.lt g e).1
                refine ⟨k + 1, ws ++ [(l, 1)], lessF R2 l, _, rfl, by omega, by go_num, by simp; omega, HNEXT, own_kept HROW.out hga (fun g e e2 => by have h1 := (HST.out g e).2; have h2 := hlow g e2; omega), ⟨vs ++ [.slice ea l.length ec], by simp [HVL.out], ?_, fun i hv hw => ?_⟩, ?_⟩
                · rw [wayCells_snoc _ _ _ _ HVL.out, List.length_append]
                  exact hoT9
                · by_cases hi : i < vs.length
                  · have hiw : i < ws.length := by rw [← HVL.out]; exact hi
                    rw [List.getElem_append_left hi, List.getElem_append_left hiw]
                    exact own_kept (HROWS.out i hi hiw) hga (fun g e e2 => own_ne (HROWS.out i hi hiw) HLROW.out (by decide) g e e2)
                  · have hie : i = vs.length := by simp at hv; omega
                    subst hie
                    have e1 : (vs ++ [Value.slice ea l.length ec])[vs.length]'(by simp) = .slice ea l.length ec := by simp
                    have e2 : (ws ++ [(l, (1 : Int))])[vs.length]'(by simp [HVL.out]) = (l, 1) := by simp [HVL.out]
                    rw [e1, e2]
                    exact own_kept (own_less HROWE.out hz89) hga (fun g e e2 => own_ne HROWE.out HLROW.out (by decide) g e e2)
                · have h := HG10.out
                  exact ⟨hga.os.trans h.os, hga.tape.trans h.tape, hga.output.trans h.output, Nat.le_trans h.size hga.size, fun k hk hne => (hga.block k (Nat.lt_of_lt_of_le hk hz810) (fun e => by have := hlow k e.symm; omega)).trans (h.block k hk hne)⟩
              case measure => simp [intOf]; omega
        · have hsp : (k = 1000) ∨ (k < 1000 ∧ ¬ 0 < f) := by omega
          have hwsl : ws.length ≤ 1000 := by omega
          obtain ⟨vs, hvl2, hlrow, hrows⟩ := HWAYS.out
          obtain ⟨la, lc, rfl⟩ := own_form hlrow
          obtain ⟨lvs, hll, horow, hone, hows⟩ := HALL.out.kept_low HG.out (fun g e => (HST.out g e).2)
          have HONE := Lib.hid hone
          have HOWS := Lib.hid hows
          have HLL := Lib.hid hll
          have HOROW := Lib.hid horow
          have hoT := horow.alloc (.cells #[.slice la ws.length lc] 42)
          have hvlb : vss.length ≤ 256 := by have := hvl.out; omega
          have hz79 : w7.heap.size ≤ w9.heap.size := Nat.le_trans hz78 hz89
          clear hvl2 hlrow hrows hone hows hll horow hgo
          rcases hsp with rfl | ⟨hk1, hf0⟩
          · have t1 : ((1000 : Nat) : Int) = 1000 := rfl
            clear t1 cr' co9
            subst hrg
            go_wp2_with (
              at_builtin
              refine wpList_append_lies _ (by rfl) (.tmp 99) (.tmp 101) 26 (by rfl) w7.heap.size 42 i2 _ 1 24 Try.underlying26 hi2 hs0 hs1 hs2 rfl (by decide) _ vss.length lvs (by rfl) hoT ⟨w9.heap.size, 0, none⟩ 1 1 [.slice la ws.length lc] (by rfl) (by rfl) (cell_one_new _ _ _) (by simp [Value.oneCell']) (by omega) (by simp [maxLen]; omega) (by omega) (by simp; omega) (w9.heap.size + 1) (by simp) ?_
              intro g2 cap2' w11 hoT9 hg9 hloc9 hlt9)
            go_roundw
            case rel =>
              have hga : w9.grownBy w11 _ := (World.grownBy_alloc w9 _ _).trans hg9
              have hlow : ∀ g, _ = some g → w7.heap.size ≤ g := fun g e => (HOROW.out.lt g e).1
              refine ⟨i + 1, vss ++ [ws], R2, _, rfl, by omega, by go_num, Lib.hid (by have := hvl.out; simp; omega), Lib.hid (hin.out.out hst.out (by rw [hvl.out]; exact HOX.out) hwsl), own_kept HREST2.out hga (fun g e e2 => by have h1 := (HST.out g e).2; have h2 := hlow g e2; omega), ⟨lvs ++ [.slice la ws.length lc], by simp [HLL.out], by rw [List.length_append]; exact hoT9, fun u hu => ?_, fun j hv hw => ?_⟩, hB9.grown hga hB9.size (fun g e => by have := hlow g e; omega), Nat.le_trans hz79 hga.size⟩
              · rcases List.mem_append.1 hu with hu | hu
                · exact HONE.out u hu
                · rw [List.mem_singleton.1 hu]; rfl
              · by_cases hj : j < lvs.length
                · have hjw : j < vss.length := by rw [← HLL.out]; exact hj
                  rw [List.getElem_append_left hj, List.getElem_append_left hjw]
                  exact ⟨(HOWS.out j hj hjw).1.kept HOROW.out (by decide) (by decide) hga, (HOWS.out j hj hjw).2⟩
                · have hje : j = lvs.length := by simp at hv; omega
                  subst hje
                  have e1 : (lvs ++ [Value.slice la ws.length lc])[lvs.length]'(by simp) = .slice la ws.length lc := by simp
                  have e2 : (vss ++ [ws])[lvs.length]'(by simp [HLL.out]) = ws := by simp [HLL.out]
                  rw [e1, e2]
                  exact ⟨(HWAYS.out.less hz78).kept HOROW.out (by decide) (by decide) hga, _, _, _, rfl⟩
            case measure => simp [intOf]; omega
          · have t1 : decide ((k : Int) < 1000) = true := by simp; omega
            have t2 : decide (0 < f) = false := by simpa using hf0
            subst hrg
            go_wp2_with (
              at_builtin
              refine wpList_append_lies _ (by rfl) (.tmp 99) (.tmp 101) 26 (by rfl) w7.heap.size 42 i2 _ 1 24 Try.underlying26 hi2 hs0 hs1 hs2 rfl (by decide) _ vss.length lvs (by rfl) hoT ⟨w9.heap.size, 0, none⟩ 1 1 [.slice la ws.length lc] (by rfl) (by rfl) (cell_one_new _ _ _) (by simp [Value.oneCell']) (by omega) (by simp [maxLen]; omega) (by omega) (by simp; omega) (w9.heap.size + 1) (by simp) ?_
              intro g2 cap2' w11 hoT9 hg9 hloc9 hlt9)
            go_roundw
            case rel =>
              have hga : w9.grownBy w11 _ := (World.grownBy_alloc w9 _ _).trans hg9
              have hlow : ∀ g, _ = some g → w7.heap.size ≤ g := fun g e => (HOROW.out.lt g e).1
              refine ⟨i + 1, vss ++ [ws], R2, _, rfl, by omega, by go_num, Lib.hid (by have := hvl.out; simp; omega), Lib.hid (hin.out.out hst.out (by rw [hvl.out]; exact HOX.out) hwsl), own_kept HREST2.out hga (fun g e e2 => by have h1 := (HST.out g e).2; have h2 := hlow g e2; omega), ⟨lvs ++ [.slice la ws.length lc], by simp [HLL.out], by rw [List.length_append]; exact hoT9, fun u hu => ?_, fun j hv hw => ?_⟩, hB9.grown hga hB9.size (fun g e => by have := hlow g e; omega), Nat.le_trans hz79 hga.size⟩
              · rcases List.mem_append.1 hu with hu | hu
                · exact HONE.out u hu
                · rw [List.mem_singleton.1 hu]; rfl
              · by_cases hj : j < lvs.length
                · have hjw : j < vss.length := by rw [← HLL.out]; exact hj
                  rw [List.getElem_append_left hj, List.getElem_append_left hjw]
                  exact ⟨(HOWS.out j hj hjw).1.kept HOROW.out (by decide) (by decide) hga, (HOWS.out j hj hjw).2⟩
                · have hje : j = lvs.length := by simp at hv; omega
                  subst hje
                  have e1 : (lvs ++ [Value.slice la ws.length lc])[lvs.length]'(by simp) = .slice la ws.length lc := by simp
                  have e2 : (vss ++ [ws])[lvs.length]'(by simp [HLL.out]) = ws := by simp [HLL.out]
                  rw [e1, e2]
                  exact ⟨(HWAYS.out.less hz78).kept HOROW.out (by decide) (by decide) hga, _, _, _, rfl⟩
            case measure => simp [intOf]; omega
    · obtain rfl : i = o.length := by omega
      obtain ⟨lvs, hll, horow, hone, hows⟩ := HALL.out
      obtain ⟨qa, qc, rfl⟩ := own_form horow
      have hfew := hst.out.few hn64
      have hat := (HALL.out.at2 hfew.1 hfew.2).2
      have HAT := Lib.hid hat
      clear hll horow hone hows hfew hat hlt
      go_wp2
      go_loopw [20] (fun kv wr => ∃ y : Nat, y ≤ fl ∧ kv = .int .i64 y ∧ Hid (∀ e, e < y → fa R e = 0) ∧ w8 = wr) (fun kv _ => fl - (intOf kv).toNat)
      case atStart => exact ⟨0, Nat.zero_le _, rfl, Lib.hid (fun e he => by omega), rfl⟩
      case round =>
        obtain ⟨y, hy, rfl, hz, rfl⟩ := hrel
        have hRl : R.length = fl := by rw [hst.out.len, HFL.out]
        by_cases hyf : y < fl
        · obtain ⟨rg, hrg, hrg0, hrg1, cr⟩ := own_int (by rw [hRl]; exact HREST.out) (show y < R.length by rw [hRl]; exact hyf)
          have cr' : w8.cell? ⟨rg, y, none⟩ = some (.int .i64 (fa R y)) := cr
          obtain ⟨f, hf⟩ : ∃ f, fa R y = f := ⟨_, rfl⟩
          rw [hf] at cr'
          have HF := Lib.hid hf
          have hyI : (y : Int) < (fl : Int) := by omega
          subst hrg
          clear cr hf hRl
          by_cases h0 : f = 0
          · have t1 : (f != 0) = false := by simp [h0]
            have HZ : Hid (∀ e, e < y + 1 → fa R e = 0) := Lib.hid (fun e he => by
              by_cases h : e < y
              · exact hz.out e h
              · have : e = y := by omega
                rw [this, HF.out]; exact h0)
            clear h0
            go_wp2
            go_roundw
            case rel => exact ⟨y + 1, by omega, by go_num, HZ, trivial⟩
            case measure => simp [intOf]; omega
          · have t1 : (f != 0) = true := by simp [h0]
            clear h0
            go_wp2
            go_ret
            exact ⟨rfl, hB6.trans (hB.mono hz6)⟩
        · obtain rfl : y = fl := by omega
          have hag := (HPP.out ▸ hst.out : StayAt n F o (fillE n F 0 1 o wss) R vss).again HFO.out HRT.out HPERM.out hvl.out (fun e he => hz.out e (by rw [← HFL.out]; exact he))
          have hfo2 := hst.out.form HRT.out HPERM.out hvl.out
          have hR2 := fillF_form hfo2
          rw [hag, HPP.out] at hR2
          have HR2 := Lib.hid hR2
          have bM8 := bM6.below hB lM6
          obtain ⟨lM8, m80, m81⟩ := bM8.two
          have HE8 := Lib.hid (net_on HE6.out hB)
          have HO8 := Lib.hid (flow_on HO6.out hB)
          have HP8 := Lib.hid (flow_on HP6.out hB)
          have HG8 := Lib.hid (flow_on HG6.out hB)
          have HAT8 : Hid (WayssAt w8.heap.size w8 qa vss.length vss) := HAT
          clear hag hfo2 hR2 hRl hyf
          go_wp2_with (first
            | (go_at_call 10; (with_reducible refine (fill_any _ _ _ _ F 0 1 _ _ _ o _ _ _ vss _ HE8.out HO8.out HAT8.out).mono ?_); rw [HR2.out]; rintro e w9 ⟨ua, ul, uc, ta, tl, tc, he, hP9, hG9, _, hb9⟩
               dsimp only at he hP9 hG9
               subst he
               have HP9 := Lib.hid hP9
               have HG9 := Lib.hid hG9
               have HP89 := Lib.hid (flow_on HP8.out hb9)
               have HG89 := Lib.hid (flow_on HG8.out hb9)
               have hB9 := hB.trans (hb9.mono hz68)
               clear hP9 hG9 hb9 m80 m81)
            | (go_at_call 12; (with_reducible refine (intsame_yes _ _ _ _ _ _ P _ HP9.out HP89.out).mono ?_); rintro e w10 ⟨rfl, hd10⟩
               have HGA := Lib.hid (flow_on HG9.out (hd10.low _))
               have HGB := Lib.hid (flow_on HG89.out (hd10.low _))
               have hB10 := hB9.trans (hd10.low _)
               clear hd10)
            | (go_at_call 12; (with_reducible refine (intsame_yes _ _ _ _ _ _ (gotF P o) _ HGA.out HGB.out).mono ?_); rintro e w11 ⟨rfl, hd11⟩))
          go_ret
          exact ⟨rfl, hB6.trans ((hB10.trans (hd11.low _)).mono hz6)⟩

theorem own : ownKnob Try.prog.godebug = none := by kernel_rfl
theorem laidOut : laidOutB Try.prog = true := by kernel_rfl

set_option maxRecDepth 100000 in
theorem lifted (os : Os) (started : os.Started) (H : Type) (enc : TypeId × Value → H) :
    ReturnsInHanded {} Try.checked os 6 .any (Rows.lexStaysSpec.pre6 enc Try.prog Try.f6 Rows.lexStaysRow.domain false) (Rows.lexStaysSpec.post enc Try.prog Try.f6 false true false false) := by
  refine returnsInHanded_of_change_sized (C := Try.checked) own started (by kernel_rfl) Try.func6
    (ChangeSpec.witness6 (enc := enc) (C := Try.checked) false ⟨#[], #[.agg #[.int .i64 0, .slice none 0 0], .slice none 0 0, .slice none 0 0], []⟩ 8 (by kernel_rfl) (by kernel_rfl) (by kernel_rfl) (by kernel_rfl)) ?_
  intro W base args ds gs before hval0 hW _ hsz0 _
  have hsz : (DataW.weightsEach Try.prog (Try.f6.params.toList ++ Rows.lexStaysSpec.plain.varTypes Try.prog) (ds ++ gs)).all (· ≤ reachBytes) = true := hsz0
  have hval : ∀ (j : Nat) t v, Try.f6.params[j]? = some t → args[j]? = some v → Value.okWide Try.prog W .any base t v := hval0
  have hW' := hW
  obtain ⟨p, q, hA0, hV, rfl, hfz, hnd⟩ := hW
  have hA : DataW.TrodAll enc Try.prog W 0 (fun _ => true) true Try.f6.params.toList args.toList ds p := hA0
  rw [Try.params6] at hA hval hsz
  obtain ⟨v0, vs0, d0, ds0, p0, q0, hargs, rfl, rfl, h0, r0⟩ := trodAll_cons hA
  obtain ⟨v1, vs1, d1, ds1, p1, q1, rfl, rfl, rfl, h1, r1⟩ := trodAll_cons r0
  obtain ⟨v2, vs2, d2, ds2, p2, q2, rfl, rfl, rfl, h2, r2⟩ := trodAll_cons r1
  obtain ⟨rfl, rfl, rfl⟩ := trodAll_nil r2
  obtain rfl : args = #[v0, v1, v2] := by cases args; simp_all
  obtain ⟨rfl, rfl⟩ := trodVars_none hV
  have k0 := h0
  have lt0 : ∀ x ∈ p0, x.block < W.heap.size := by obtain ⟨m, hm⟩ := k0; exact DataW.trod_lt m _ _ _ hm
  have k1 := h1
  have lt1 : ∀ x ∈ p1, x.block < W.heap.size := by obtain ⟨m, hm⟩ := k1; exact DataW.trod_lt m _ _ _ hm
  have k2 := h2
  have lt2 : ∀ x ∈ p2, x.block < W.heap.size := by obtain ⟨m, hm⟩ := k2; exact DataW.trod_lt m _ _ _ hm
  obtain ⟨n0, a0, len0, cap0, es0, rfl, b0⟩ := net_of (hval 0 24 v0 rfl rfl) k0 (weights_at hsz (j := 0) (t := 24) rfl rfl)
  obtain ⟨a1, len1, cap1, rfl⟩ := okWide_slice Try.underlying25 (hval 1 25 v1 rfl rfl)
  obtain ⟨z1, b1⟩ := ints_of k1 (weights_at hsz (j := 1) (t := 25) rfl rfl)
  obtain ⟨a2, len2, cap2, rfl⟩ := okWide_slice Try.underlying33 (hval 2 33 v2 rfl rfl)
  obtain ⟨z2, b2⟩ := intss_of k2 (weights_at hsz (j := 2) (t := 33) rfl rfl)
  clear hA0 hval0 hsz0 hsz
  refine (walk n0 a0 len0 cap0 es0 a1 len1 cap1 z1 a2 len2 cap2 z2 W b0 b1 b2).mono fun e W' ⟨he, bel⟩ => ?_
  subst he
  exact ⟨_, rfl, _, _, _, [], _, [], hW', trodAll_mk1 (shut_bool Try.underlying4 _), (trodAll_cons_mk (Below.trod laidOut (by kernel_rfl) (of_decide_eq_true (by kernel_rfl)) k0 bel lt0) (trodAll_cons_mk (Below.trod laidOut (by kernel_rfl) (of_decide_eq_true (by kernel_rfl)) k1 bel lt1) (trodAll_cons_mk (Below.trod laidOut (by kernel_rfl) (of_decide_eq_true (by kernel_rfl)) k2 bel lt2) trodAll_mk0))), rfl, bel.frame _, fun h => by cases h⟩

theorem over : Rows.lexStaysRow.holds Try.pinned (OpenSpec.ofChange Rows.lexStaysSpec) :=
  OpenClaim.holds_of_wide 6 Try.f6 rfl rfl rfl rfl rfl rfl rfl ⟨rfl, rfl, rfl, rfl, rfl⟩ rfl rfl rfl rfl rfl (by kernel_rfl) Try.func6 (by kernel_rfl)
    (of_decide_eq_true (by kernel_rfl)) (by unfold Func.isWrapper; first | (rw [if_pos (by decide +kernel)]; kernel_rfl) | (rw [if_neg (by decide +kernel)]; exact ⟨rfl, rfl⟩))
    (fun os started H enc _ => lifted os started H enc)

theorem proved : Rows.LexStaysSaid := over
end Go.Proofs.Ythchlfoebkachaa.lawLStays
