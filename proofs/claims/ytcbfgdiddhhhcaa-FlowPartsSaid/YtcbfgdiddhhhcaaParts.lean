/-
  The statement FlowParts is proved for every network and every two numbers: an edge that is parted into two lets as much flow, in whatever order. No condition.
-/
import Derived.Test.YtcbfgdiddhhhcaaTold6
import Derived.Test.YtcbfgdiddhhhcaaCmp6
import Derived.Test.YtcbfgdiddhhhcaaPlus
import Derived.Test.YtcbfgdiddhhhcaaCapped
import Derived.Test.YtcbfgdiddhhhcaaMix
import Derived.Deep.AppendLies
import Derived.Deep.DeepCutAuto
import Derived.Test.YtcbfgdiddhhhcaaRows
namespace Go.Proofs.Ytcbfgdiddhhhcaa.lawParts
open Go.ChangeShapes Go.WideShapes Go.ChangeAt Go.RowKit Gm

theorem net_take {B : Nat} {W : World} {a : Option Addr} {len c : Nat} {es : List E} (h : NetAt B W a len es) (hc : c ≤ len) : NetAt B W a c (es.take c) := by
  obtain ⟨h1, h2, b, off, ha, hcell⟩ := h
  refine ⟨by rw [List.length_take, h1]; omega, by omega, b, off, ?_, fun i hi => ?_⟩
  · rcases ha with h | h
    · left; rw [List.length_take, h]; omega
    · exact .inr h
  · rw [List.length_take] at hi
    rw [List.getElem_take]
    exact hcell i (by omega)
/-- What stands behind n := Fit(..). -/
def MorePost (n : Nat) (F : List E) (w3 : World) (s : Value) (wx : World) : Prop :=
  ∃ M a5 cap5, s = .pointer (some ⟨M, 0, none⟩) ∧ w3.heap.size ≤ M ∧ Blk wx M 24 #[.int .i64 (n : Int), .slice a5 F.length cap5] ∧ NetAt wx.heap.size wx a5 F.length F ∧ Below w3.heap.size w3 wx

def PartAt (w3 : World) (N : Int) (P : List E) (j : Nat) (wr : World) : Prop :=
  (∃ sl, Blk wr (w3.heap.size + 1) 24 #[.int .i64 N, sl] ∧ wr.ownsRow w3.heap.size 44 3 sl (j + 1) (flat (P.take (j + 1)))) ∧ Below w3.heap.size w3 wr

set_option maxRecDepth 100000 in
set_option maxHeartbeats 4000000 in
theorem walk (v : Int) (a : Option Addr) (len cap : Nat) (raw : List E) (wh pt : Int) (w : World) (h0 : (I64 v ∧ NetAt w.heap.size w a len raw ∧ Wide raw) ∧ len ≤ cap) (h1 : I64 wh) (h2 : I64 pt) :
    Calls Try.prog 10 #[netV v a len cap, .int .i64 wh, .int .i64 pt] w fun e w' => e = .returned (.bool true) ∧ Below w.heap.size w w' := by
  obtain ⟨⟨hv, hE, hW⟩, hcap⟩ := h0
  obtain ⟨W0, hW0⟩ : ∃ W0, w.alloc (.cells #[.int .i64 v, .slice a len cap] 24) = W0 := ⟨_, rfl⟩
  have hB0 : Below w.heap.size w W0 := by rw [← hW0]; exact (Below.refl _ w).alloc (Nat.le_refl _) _
  have bN : Blk W0 w.heap.size 24 #[.int .i64 v, .slice a len cap] := by rw [← hW0]; exact Blk.new w _ _
  have HW0 := Lib.hid hW0
  have HV := Lib.hid hv
  have HE := Lib.hid hE
  have HWH := Lib.hid h1
  have HPT := Lib.hid h2
  have hN := fitN_bd v
  obtain ⟨n, hn⟩ : ∃ n : Nat, fitN v = n := ⟨(fitN v).toNat, by omega⟩
  rw [hn] at hN
  obtain ⟨c, hc⟩ : ∃ c, min len 39 = c := ⟨_, rfl⟩
  have hcl : c ≤ len := by omega
  have hc39 : c ≤ 39 := by omega
  have HC := Lib.hid hc
  have hrt := fit_right v (raw.take c)
  rw [hn] at hrt
  have HNN := Lib.hid hn
  have HlE := Lib.hid hE.1
  obtain ⟨es, hes⟩ : ∃ es, fitEs n (raw.take c) = es := ⟨_, rfl⟩
  rw [hes] at hrt
  have HES := Lib.hid hes
  have h39 : es.length ≤ 39 := by rw [← hes, fitEs_length, List.length_take]; omega
  have HOK : Hid (∀ e ∈ es, okE n e = true ∧ e.2.2 ≤ 9) := Lib.hid (by rw [← hes]; exact fitEs_ok _ _ (by omega))
  have HRT := Lib.hid hrt
  have HWI : Hid (Wide (raw.take c)) := Lib.hid (fun e he => hW e (List.mem_of_mem_take he))
  obtain ⟨R, hR, hG, hgain, hmost, _, hR0, hR1⟩ := maxF_good (n := n) (es := es) (s := 0) (t := 1) hrt (by omega) (by omega) (by omega) (by omega) (by omega)
  obtain ⟨f, m⟩ := R
  dsimp only at hR hG hgain hmost hR0 hR1
  have HM := Lib.hid hR
  have HMOST := Lib.hid hmost
  have HZ : Hid (es.length = 0 → m = 0) := Lib.hid (fun h => by
    rw [← hgain, List.eq_nil_of_length_eq_zero h]; rfl)
  have hz0 := hB0.size
  obtain ⟨i0, hi0, hx0, hx1, hx2⟩ := info_parts infoEdge
  clear hW0 hv hE hW hn hes hrt h1 h2 hR hG hgain hmost hc
  go_enter Try.func10, Try.ntmps10
  go_upto_region 2 with (go_at_call 11; rw [HW0.out]; (with_reducible refine (awake6_any _).mono ?_); rintro e w1 ⟨rfl, hb1⟩)
  have bN1 := bN.below hb1 bN.lt
  have hB1 : Below w.heap.size w w1 := hB0.trans (hb1.mono hz0)
  have hz1 := hB1.size
  clear hb1 bN hB0 hz0
  go_cut [8] (fun s8 wx => MorePost n es w1 s8 wx)
  case first =>
    obtain ⟨lN, n0, n1⟩ := bN1.two
    have hmi : (if (39 : Int) < (len : Int) then (39 : Int) else (len : Int)) = (c : Int) := by have := HC.out; split <;> omega
    have hsl := slice_edges a len cap c (by omega)
    have HE1 := Lib.hid (net_take ((HE.out.below hB1).more hz1) hcl)
    have hB := below_drew (Below.refl w1.heap.size w1)
    have hcells : ∀ W, Below w1.heap.size w1 W → W.cell? ⟨w.heap.size, 0, none⟩ = some (.int .i64 v) ∧ W.cell? ⟨w.heap.size, 1, none⟩ = some (.slice a len cap) := fun W h =>
      ⟨(bN1.below h bN1.lt).two.2.1, (bN1.below h bN1.lt).two.2.2⟩
    have HCE := Lib.hid hcells
    clear hcells hB1
    refine region_mix (fun W => Below w1.heap.size w1 W) (12) (.reads [0, 1, 2, 3, 4, 5, 6, 7, 8, 9] (.fork 10 (.only 11 (.only 12 (.stop))) 11 (.only 10 (.only 12 (.stop))))) (by kernel_rfl) (by kernel_rfl) (hB) ?_
    obtain ⟨wc, hwc⟩ : ∃ W, w1.drew = W := ⟨_, rfl⟩
    rw [hwc] at hB ⊢
    clear hwc n0 n1
    repeat (
      refine plan_read rfl (fun K hK => ?_)
      first
        | (refine plan_neg ?_ ?_
           focus (go_simp; done)
           go_simp
           refine hK _ ?_
           clear hK K)
        | (apply plan_pos
           focus (go_simp; done)
           focus (
             intro W hW
             (first | obtain ⟨d0, d1⟩ := HCE.out W hW | skip)
             go_simp
             first
               | done
               | exact rfl)
           go_simp
           refine hK _ ?_
           clear hK K))
    refine plan_fork rfl rfl (fun Q hQ => ?_) (fun Q hQ => ?_)
    · go_wp2_with (go_at_call 17; (with_reducible refine (fit_any _ _ _ _ (raw.take c) _ (net_on HE1.out hB) HV.out HWI.out).mono ?_); rintro e wd ⟨a6, cap6, rfl, h10, hb⟩; rw [HNN.out, HES.out] at h10 ⊢)
      replace hB := hB.trans (hb.mono hB.size)
      try replace h11 := h11.below hb h11.lt
      refine hQ _ _ (fun _ => hB) ?_
      clear hQ Q hb
      obtain ⟨wc, rfl⟩ : ∃ W, W = wd := ⟨_, rfl⟩
      refine plan_only rfl (fun Q hQ => ?_)
      go_wp2
      have h11 := Blk.new wc 24 #[.int .i64 0, .slice none 0 0]
      have hM := hB.size
      replace hB := hB.alloc hB.size (.cells #[.int .i64 0, .slice none 0 0] 24)
      try replace h10 := (h10.below ((Below.refl _ wc).alloc (Nat.le_refl _) (.cells #[.int .i64 0, .slice none 0 0] 24))).more (B' := (wc.alloc (.cells #[.int .i64 0, .slice none 0 0] 24)).heap.size) (by simp)
      refine hQ _ _ (fun _ => hB) ?_
      clear hQ Q
      generalize wc.alloc (.cells #[.int .i64 0, .slice none 0 0] 24) = wd at *
      generalize wc.heap.size = M at *
      obtain ⟨wc, rfl⟩ : ∃ W, W = wd := ⟨_, rfl⟩
      refine plan_only rfl (fun Q hQ => ?_)
      obtain ⟨lM, y0, y1⟩ := h11.two
      have yf0 := h11.frozen 0
      have yf1 := h11.frozen 1
      go_wp2
      have h10' := (h10.off (i := 0) h11 (.int .i64 (n : Int))).off (i := 1) (h11.set 0 (.int .i64 (n : Int))) (.slice a6 es.length cap6)
      replace h10 : NetAt ((wc.setCell ⟨M, 0, none⟩ (.int .i64 (n : Int))).setCell ⟨M, 1, none⟩ (.slice a6 es.length cap6)).heap.size _ _ _ _ := h10'.more (by simp)
      replace h11 := (h11.set 0 (.int .i64 (n : Int))).set 1 (.slice a6 es.length cap6)
      replace hB := (hB.setCell (p := ⟨M, 0, none⟩) hM (.int .i64 (n : Int))).setCell (p := ⟨M, 1, none⟩) hM (.slice a6 es.length cap6)
      refine hQ _ _ (fun h => absurd h (by omega)) ?_
      clear hQ Q h10' y0 y1 yf0 yf1
      unfold Plan.wp
      go_wp2_with fail
      go_meet
      exact ⟨M, a6, cap6, rfl, hM, h11, h10, hB⟩
    · go_wp2
      have h11 := Blk.new wc 24 #[.int .i64 0, .slice none 0 0]
      have hM := hB.size
      replace hB := hB.alloc hB.size (.cells #[.int .i64 0, .slice none 0 0] 24)
      try replace h10 := (h10.below ((Below.refl _ wc).alloc (Nat.le_refl _) (.cells #[.int .i64 0, .slice none 0 0] 24))).more (B' := (wc.alloc (.cells #[.int .i64 0, .slice none 0 0] 24)).heap.size) (by simp)
      refine hQ _ _ (fun _ => hB) ?_
      clear hQ Q
      generalize wc.alloc (.cells #[.int .i64 0, .slice none 0 0] 24) = wd at *
      generalize wc.heap.size = M at *
      obtain ⟨wc, rfl⟩ : ∃ W, W = wd := ⟨_, rfl⟩
      refine plan_only rfl (fun Q hQ => ?_)
      go_wp2_with (go_at_call 17; (with_reducible refine (fit_any _ _ _ _ (raw.take c) _ (net_on HE1.out hB) HV.out HWI.out).mono ?_); rintro e wd ⟨a6, cap6, rfl, h10, hb⟩; rw [HNN.out, HES.out] at h10 ⊢)
      replace hB := hB.trans (hb.mono hB.size)
      try replace h11 := h11.below hb h11.lt
      refine hQ _ _ (fun _ => hB) ?_
      clear hQ Q hb
      obtain ⟨wc, rfl⟩ : ∃ W, W = wd := ⟨_, rfl⟩
      refine plan_only rfl (fun Q hQ => ?_)
      obtain ⟨lM, y0, y1⟩ := h11.two
      have yf0 := h11.frozen 0
      have yf1 := h11.frozen 1
      go_wp2
      have h10' := (h10.off (i := 0) h11 (.int .i64 (n : Int))).off (i := 1) (h11.set 0 (.int .i64 (n : Int))) (.slice a6 es.length cap6)
      replace h10 : NetAt ((wc.setCell ⟨M, 0, none⟩ (.int .i64 (n : Int))).setCell ⟨M, 1, none⟩ (.slice a6 es.length cap6)).heap.size _ _ _ _ := h10'.more (by simp)
      replace h11 := (h11.set 0 (.int .i64 (n : Int))).set 1 (.slice a6 es.length cap6)
      replace hB := (hB.setCell (p := ⟨M, 0, none⟩) hM (.int .i64 (n : Int))).setCell (p := ⟨M, 1, none⟩) hM (.slice a6 es.length cap6)
      refine hQ _ _ (fun h => absurd h (by omega)) ?_
      clear hQ Q h10' y0 y1 yf0 yf1
      unfold Plan.wp
      go_wp2_with fail
      go_meet
      exact ⟨M, a6, cap6, rfl, hM, h11, h10, hB⟩
  case rest =>
    obtain ⟨M, a2, cap2, rfl, hM, bM, hE2, hb2⟩ := hcut
    obtain ⟨w2, rfl⟩ : ∃ w', w' = wc := ⟨_, rfl⟩
    have HE2 := Lib.hid hE2
    have hB2 := hB1.trans (hb2.mono hz1)
    have hz2 := hB2.size
    obtain ⟨lM, m0, m1⟩ := bM.two
    clear hE2 hb2 bN1 hB1 hz1
    by_cases hL : es.length = 0
    · obtain rfl : m = 0 := HZ.out hL
      have t1 : ((es.length : Int) == 0) = true := by simp [hL]
      clear hL
      go_wp2_with (go_at_call 14; (with_reducible refine (max_any _ _ _ _ es 0 1 _ HE2.out).mono ?_); rw [HM.out]; rintro e w3 ⟨a3, l3, c3, he, hF3, hb3⟩
                   dsimp only at he hF3
                   subst he)
      go_ret
      exact ⟨rfl, hB2.trans (hb3.mono hz2)⟩
    · have t1 : ((es.length : Int) == 0) = false := by rw [beq_eq_false_iff_ne]; omega
      have hLp : 0 < es.length := by omega
      clear hL
      have hpk := pk_bd wh es.length (by omega)
      obtain ⟨kk, hkk⟩ : ∃ kk : Nat, pk wh es.length = kk := ⟨(pk wh es.length).toNat, by omega⟩
      rw [hkk] at hpk
      have hkl : kk < es.length := by omega
      have HKK := Lib.hid hkk
      obtain ⟨b, off, ha, hc⟩ := HE2.out.2.2
      obtain ⟨hb, c0, c1, c2⟩ := hc kk hkl
      obtain rfl : a2 = some ⟨b, off, none⟩ := by
        rcases ha with h | h
        · omega
        · exact h
      have hok := HOK.out _ (List.getElem_mem hkl)
      have hok1 := (okE_iff.1 hok.1).2.2.2.2.2.1
      have hok2 := hok.2
      have hed : ed es kk = es[kk] := by unfold ed; rw [List.getElem?_eq_getElem hkl]; rfl
      obtain ⟨x, hx⟩ : ∃ x, ed es kk = x := ⟨_, rfl⟩
      rw [← hed, hx] at c0 c1 c2 hok1 hok2
      have hpc := pk_bd pt (x.2.2 + 1) (by omega)
      obtain ⟨q, hq⟩ : ∃ q, pk pt (x.2.2 + 1) = q := ⟨_, rfl⟩
      rw [hq] at hpc
      obtain ⟨hq0, hq1⟩ := hpc
      have HQQ := Lib.hid hq
      have HX := Lib.hid hx
      obtain ⟨P, hP⟩ : ∃ P, parted es kk q = P := ⟨_, rfl⟩
      have HP := Lib.hid hP
      have hkki : (kk : Int) < (es.length : Int) := by omega
      have hw0 : IntKind.i64.wrap (x.2.2 + 1) = x.2.2 + 1 := IntWalk.i64_in _ (by omega)
      have HCELL : Hid (∀ k (h : k < es.length), b < w2.heap.size ∧ w2.cell? ⟨b, off + k * 3, none⟩ = some (.int .i64 es[k].1) ∧ w2.cell? ⟨b, off + k * 3 + 1, none⟩ = some (.int .i64 es[k].2.1) ∧ w2.cell? ⟨b, off + k * 3 + 2, none⟩ = some (.int .i64 es[k].2.2)) := Lib.hid hc
      clear ha hc hx hok hed hpk hkk hq hP
      go_upto_region 9 with (first
        | (go_at_call 20; (with_reducible refine (pick6_any _ _ _ HWH.out (by omega) (by omega)).mono ?_); rw [HKK.out]; rintro e wp ⟨rfl, rfl⟩)
        | (go_at_call 20; (with_reducible refine (pick6_any _ _ _ HPT.out (by omega) (by omega)).mono ?_); rw [HQQ.out]; rintro e wp ⟨rfl, rfl⟩))
      clear hw0
      obtain ⟨w3, hw3⟩ : ∃ W, w2.alloc (.cells #[.int .i64 x.1, .int .i64 x.2.1, .int .i64 x.2.2] 44) = W := ⟨_, rfl⟩
      have bX3 : Blk w3 w2.heap.size 44 #[.int .i64 x.1, .int .i64 x.2.1, .int .i64 x.2.2] := hw3 ▸ Blk.new w2 _ _
      have bM3 : Blk w3 M 24 #[.int .i64 (n : Int), .slice (some ⟨b, off, none⟩) es.length cap2] := hw3 ▸ bM.alloc _
      have hB3 : Below w.heap.size w w3 := hw3 ▸ hB2.alloc hz2 _
      have hb23 : Below w2.heap.size w2 w3 := hw3 ▸ (Below.refl _ w2).alloc (Nat.le_refl _) _
      have HE3 := Lib.hid (net_on HE2.out hb23)
      have hz3 := hB3.size
      have HB23 := Lib.hid hb23
      rw [hw3]
      clear hw3 bM lM m0 m1 c0 c1 c2 hB2 hz2 hb23
      obtain ⟨lM3, m0, m1⟩ := bM3.two
      obtain ⟨lX3, x0, x1, x2⟩ := bX3.three
      have hwl : IntKind.i64.wrap ((es.length : Int) - 1) = (es.length : Int) - 1 := IntWalk.i64_in _ (by omega)
      have HPL : Hid (P.length = es.length + 1) := Lib.hid (by rw [← HP.out]; unfold parted; simp)
      have HP0 : Hid (P.take 1 = [(x.1, x.2.1, q)]) := Lib.hid (by rw [← HP.out]; unfold parted; rw [HX.out]; rfl)
      have HPN : Hid (∀ j, j < es.length → ∀ h : es.length - 1 - j < es.length, P.take (j + 2) = P.take (j + 1) ++ [if es.length - 1 - j = kk then ((es[es.length - 1 - j]'h).1, (es[es.length - 1 - j]'h).2.1, x.2.2 - q) else es[es.length - 1 - j]'h]) := Lib.hid (fun j hj h => by
        have hl : j + 1 < P.length := by rw [HPL.out]; omega
        rw [List.take_succ_eq_append_getElem hl]
        congr 2
        have e : P[j + 1]'hl = (parted es kk q)[j + 1]'(by rw [HP.out]; exact hl) := by congr 1; exact HP.out.symm
        rw [e]
        unfold parted
        rw [List.getElem_cons_succ, List.getElem_reverse, List.getElem_set]
        simp only [List.length_set]
        by_cases e2 : kk = es.length - 1 - j
        · have hed : ed es kk = es[es.length - 1 - j] := by subst e2; unfold ed; rw [List.getElem?_eq_getElem h]; rfl
          rw [if_pos e2, if_pos e2.symm, hed, ← HX.out, hed]
        · rw [if_neg e2, if_neg (fun h => e2 h.symm)])
      go_wp2
      go_loopw [16] (fun i wr => ∃ j : Nat, j ≤ es.length ∧ i = .int .i64 ((es.length : Int) - 1 - j) ∧ PartAt w3 n P j wr) (fun i _ => (intOf i + 1).toNat)
      case atStart =>
        refine ⟨0, Nat.zero_le _, by simp, ⟨.slice (some ⟨w3.heap.size, 0, none⟩) 1 1, ?_, ?_⟩, ((Below.refl _ w3).alloc (Nat.le_refl _) _).alloc (by simp) _⟩
        · have := Blk.new (w3.alloc (.cells #[.int .i64 x.1, .int .i64 x.2.1, .int .i64 q] 44)) 24 #[.int .i64 (n : Int), .slice (some ⟨w3.heap.size, 0, none⟩) 1 1]
          rwa [World.size_alloc] at this
        · rw [HP0.out]
          exact (World.ownsRow_lit w3 #[.int .i64 x.1, .int .i64 x.2.1, .int .i64 q] 1 (Nat.le_refl _) (by unfold maxLen; omega) rfl).alloc _
      case round =>
        obtain ⟨j, hj, rfl, ⟨sl, bT, hoT⟩, hB⟩ := hrel
        obtain ⟨w4, rfl⟩ : ∃ w', w' = wr := ⟨_, rfl⟩
        clear m0 m1 x0 x1 x2
        obtain ⟨lT, e0, e1⟩ := bT.two
        have hz4 := hB.size
        by_cases hlt : j < es.length
        · obtain ⟨p, hp⟩ : ∃ p, es.length - 1 - j = p := ⟨_, rfl⟩
          have hpi : (es.length : Int) - 1 - j = (p : Int) := by omega
          have hpl : p < es.length := by omega
          have hTP : P.take (j + 1 + 1) = P.take (j + 1) ++ [if p = kk then (es[p].1, es[p].2.1, x.2.2 - q) else es[p]] := by
            subst hp
            exact HPN.out j hlt (by omega)
          have HPP : Hid ((es.length : Int) - 1 - j = (p : Int)) := Lib.hid hpi
          rw [hpi]
          clear hpi hp
          obtain ⟨hb2, c0, c1, c2⟩ := HCELL.out p hpl
          have hok := HOK.out _ (List.getElem_mem hpl)
          have hok1 := (okE_iff.1 hok.1).2.2.2.2.2.1
          have hok2 := hok.2
          obtain ⟨y, hy⟩ : ∃ y, es[p] = y := ⟨_, rfl⟩
          rw [hy] at c0 c1 c2 hok1 hok2 hTP
          have hb23s := HB23.out.size
          have hcell : ∀ W, Below w3.heap.size w3 W → W.cell? ⟨b, off + p * 3, none⟩ = some (.int .i64 y.1) ∧ W.cell? ⟨b, off + p * 3 + 1, none⟩ = some (.int .i64 y.2.1) ∧ W.cell? ⟨b, off + p * 3 + 2, none⟩ = some (.int .i64 y.2.2) ∧ W.cell? ⟨M, 0, none⟩ = some (.int .i64 (n : Int)) ∧ W.cell? ⟨M, 1, none⟩ = some (.slice (some ⟨b, off, none⟩) es.length cap2) ∧ b < W.heap.size ∧ M < W.heap.size := fun W h =>
            ⟨((h.cell (p := ⟨b, off + p * 3, none⟩) (show b < _ by omega)).trans (HB23.out.cell (p := ⟨b, off + p * 3, none⟩) hb2)).trans c0, ((h.cell (p := ⟨b, off + p * 3 + 1, none⟩) (show b < _ by omega)).trans (HB23.out.cell (p := ⟨b, off + p * 3 + 1, none⟩) hb2)).trans c1, ((h.cell (p := ⟨b, off + p * 3 + 2, none⟩) (show b < _ by omega)).trans (HB23.out.cell (p := ⟨b, off + p * 3 + 2, none⟩) hb2)).trans c2, (bM3.below h lM3).two.2.1, (bM3.below h lM3).two.2.2, by have := h.size; omega, by have := h.size; omega⟩
          have HCE := Lib.hid hcell
          have hpki : (p : Int) < (es.length : Int) := by omega
          have hp0 : (0 : Int) ≤ (p : Int) := by omega
          clear hok hy hcell c0 c1 c2 hb23s
          obtain ⟨c0, c1, c2, n0, n1, hbl, lN⟩ := HCE.out w4 hB
          by_cases hpk : p = kk
          · have t1 : ((p : Int) == (kk : Int)) = true := by simp [hpk]
            have HTP : Hid (P.take (j + 1 + 1) = P.take (j + 1) ++ [(y.1, y.2.1, x.2.2 - q)]) := Lib.hid (by rw [hTP, if_pos hpk])
            have bX4 := bX3.below hB lX3
            obtain ⟨lX4, x40, x41, x42⟩ := bX4.three
            have hws : IntKind.i64.wrap (x.2.2 - q) = x.2.2 - q := IntWalk.i64_in _ (by omega)
            clear hTP hpk
            go_upto_region 16 with fail
            clear x40 x41 x42 lX4 bX4 hws
            obtain ⟨w5, hw5⟩ : ∃ W, w4.alloc (.cells #[.int .i64 y.1, .int .i64 y.2.1, .int .i64 (x.2.2 - q)] 44) = W := ⟨_, rfl⟩
            have bY5 : Blk w5 w4.heap.size 44 #[.int .i64 y.1, .int .i64 y.2.1, .int .i64 (x.2.2 - q)] := hw5 ▸ Blk.new w4 _ _
            have bT5 : Blk w5 (w3.heap.size + 1) 24 #[.int .i64 (n : Int), sl] := hw5 ▸ bT.alloc _
            have hoT5 : w5.ownsRow w3.heap.size 44 3 sl (j + 1) (flat (P.take (j + 1))) := hw5 ▸ hoT.alloc _
            have hB5 : Below w3.heap.size w3 w5 := hw5 ▸ hB.alloc hB.size _
            rw [hw5]
            clear hw5 bT hoT hB lT e0 e1 t1 c0 c1 c2 n0 n1 lN hbl
            obtain ⟨lT5, e0, e1⟩ := bT5.two
            obtain ⟨lY5, y50, y51, y52⟩ := bY5.three
            have hz35 := hB5.size
            have hoT' := hoT5.alloc (.cells #[.int .i64 y.1, .int .i64 y.2.1, .int .i64 (x.2.2 - q)] 44)
            have bT' := bT5.alloc (.cells #[.int .i64 y.1, .int .i64 y.2.1, .int .i64 (x.2.2 - q)] 44)
            have hB' := hB5.alloc hB5.size (.cells #[.int .i64 y.1, .int .i64 y.2.1, .int .i64 (x.2.2 - q)] 44)
            have hneT : sl.ownBlock ≠ some (w3.heap.size + 1) := own_blk_ne hoT' bT' (by decide)
            have HNET := Lib.hid hneT
            clear hneT
            have hwp : IntKind.i64.wrap ((p : Int) - 1) = (p : Int) - 1 := IntWalk.i64_in _ (by omega)
            go_wp2_with (
              at_builtin
              refine wpList_append_lies _ (by rfl) (.tmp 102) (.tmp 104) 22 (by rfl) w3.heap.size 44 i0 _ 3 24 Try.underlying22 hi0 hx0 hx1 hx2 rfl (by decide) sl (j + 1) (flat (P.take (j + 1))) (by rfl) hoT' ⟨w5.heap.size, 0, none⟩ 1 1 [.int .i64 y.1, .int .i64 y.2.1, .int .i64 (x.2.2 - q)] (by rfl) (by rfl) (cells_three _ _ _ _ _) (by simp [Value.oneCell']) (by omega) (by simp [maxLen]; omega) (by omega) (by simp; omega) (w5.heap.size + 1) (by simp) ?_
              intro g2 cap2' w6 hoT6 hg6 hloc6 hlt6
              have bT6 := bT'.kept hg6 HNET.out.symm
              have lT6 := bT6.lt
              have df6 := bT6.frozen 1
              have e61 := bT6.two.2.2)
            go_roundw
            case rel =>
              have hB6 := hB'.grown hg6 (by have := hB'.size; omega) (fun j e => (hoT'.lt j e).1)
              refine ⟨j + 1, by omega, by (refine congrArg _ ?_; have := HPP.out; omega), ⟨_, bT6.set 1 _, ?_⟩, hB6.setCell (p := ⟨w3.heap.size + 1, 1, none⟩) (by simp) _⟩
              rw [HTP.out, flat_snoc]
              exact ownsRow_setCell_other hoT6 (own_blk_ne hoT6 bT6 (by decide)) _
            case measure => simp [intOf]
          · have t1 : ((p : Int) == (kk : Int)) = false := by rw [beq_eq_false_iff_ne]; omega
            have HTP : Hid (P.take (j + 1 + 1) = P.take (j + 1) ++ [(y.1, y.2.1, y.2.2)]) := Lib.hid (by rw [hTP, if_neg hpk])
            clear hTP hpk
            go_upto_region 16 with fail
            obtain ⟨w5, hw5⟩ : ∃ W, w4.alloc (.cells #[.int .i64 y.1, .int .i64 y.2.1, .int .i64 y.2.2] 44) = W := ⟨_, rfl⟩
            have bY5 : Blk w5 w4.heap.size 44 #[.int .i64 y.1, .int .i64 y.2.1, .int .i64 y.2.2] := hw5 ▸ Blk.new w4 _ _
            have bT5 : Blk w5 (w3.heap.size + 1) 24 #[.int .i64 (n : Int), sl] := hw5 ▸ bT.alloc _
            have hoT5 : w5.ownsRow w3.heap.size 44 3 sl (j + 1) (flat (P.take (j + 1))) := hw5 ▸ hoT.alloc _
            have hB5 : Below w3.heap.size w3 w5 := hw5 ▸ hB.alloc hB.size _
            rw [hw5]
            clear hw5 bT hoT hB lT e0 e1 t1 c0 c1 c2 n0 n1 lN hbl
            obtain ⟨lT5, e0, e1⟩ := bT5.two
            obtain ⟨lY5, y50, y51, y52⟩ := bY5.three
            have hz35 := hB5.size
            have hoT' := hoT5.alloc (.cells #[.int .i64 y.1, .int .i64 y.2.1, .int .i64 y.2.2] 44)
            have bT' := bT5.alloc (.cells #[.int .i64 y.1, .int .i64 y.2.1, .int .i64 y.2.2] 44)
            have hB' := hB5.alloc hB5.size (.cells #[.int .i64 y.1, .int .i64 y.2.1, .int .i64 y.2.2] 44)
            have hneT : sl.ownBlock ≠ some (w3.heap.size + 1) := own_blk_ne hoT' bT' (by decide)
            have HNET := Lib.hid hneT
            clear hneT
            have hwp : IntKind.i64.wrap ((p : Int) - 1) = (p : Int) - 1 := IntWalk.i64_in _ (by omega)
            go_wp2_with (
              at_builtin
              refine wpList_append_lies _ (by rfl) (.tmp 102) (.tmp 104) 22 (by rfl) w3.heap.size 44 i0 _ 3 24 Try.underlying22 hi0 hx0 hx1 hx2 rfl (by decide) sl (j + 1) (flat (P.take (j + 1))) (by rfl) hoT' ⟨w5.heap.size, 0, none⟩ 1 1 [.int .i64 y.1, .int .i64 y.2.1, .int .i64 y.2.2] (by rfl) (by rfl) (cells_three _ _ _ _ _) (by simp [Value.oneCell']) (by omega) (by simp [maxLen]; omega) (by omega) (by simp; omega) (w5.heap.size + 1) (by simp) ?_
              intro g2 cap2' w6 hoT6 hg6 hloc6 hlt6
              have bT6 := bT'.kept hg6 HNET.out.symm
              have lT6 := bT6.lt
              have df6 := bT6.frozen 1
              have e61 := bT6.two.2.2)
            go_roundw
            case rel =>
              have hB6 := hB'.grown hg6 (by have := hB'.size; omega) (fun j e => (hoT'.lt j e).1)
              refine ⟨j + 1, by omega, by (refine congrArg _ ?_; have := HPP.out; omega), ⟨_, bT6.set 1 _, ?_⟩, hB6.setCell (p := ⟨w3.heap.size + 1, 1, none⟩) (by simp) _⟩
              rw [HTP.out, flat_snoc]
              exact ownsRow_setCell_other hoT6 (own_blk_ne hoT6 bT6 (by decide)) _
            case measure => simp [intOf]
        · obtain rfl : j = es.length := by omega
          have hm1 : (es.length : Int) - 1 - (es.length : Int) = -1 := by omega
          rw [hm1]
          clear hm1
          obtain ⟨sa, sc, rfl⟩ := own_form hoT
          have HT : Hid (NetAt w4.heap.size w4 sa (es.length + 1) P) := Lib.hid (by
            rw [List.take_of_length_le (Nat.le_of_eq HPL.out), ← HPL.out] at hoT
            have h := (edges_own (es := P) hoT (by rw [HPL.out]; omega)).2
            rwa [HPL.out] at h)
          have hrP : right n P = true := by rw [← HP.out]; exact right_parted HRT.out (by omega) hkl hq0 (by rw [HX.out]; omega)
          obtain ⟨R', hR', _, _, hm', _, hp', hq'⟩ := maxF_good (n := n) (es := P) (s := 0) (t := 1) hrP (by omega) (by omega) (by omega) (by omega) (by omega)
          obtain ⟨f', m'⟩ := R'
          dsimp only at hR' hm' hp' hq'
          obtain rfl : m = m' := by
            rw [← HP.out] at hm'
            exact most_same HMOST.out hm' (fun r => (cutSum_parted r hkl q).symm)
          have H1 := Lib.hid hR'
          have HE4 := Lib.hid (net_on HE3.out hB)
          have hB4 := hB3.trans (hB.mono hz3)
          have hz4' := hB4.size
          have bM4 := bM3.below hB lM3
          obtain ⟨lM4, m40, m41⟩ := bM4.two
          clear hR' hm' hrP hoT hB
          go_wp2_with (first
            | (go_at_call 14; (with_reducible refine (max_any _ _ _ _ es 0 1 _ HE4.out).mono ?_); rw [HM.out]; rintro e w7 ⟨a7, l7, c7, he, hF7, hb7⟩
               dsimp only at he hF7
               subst he
               have bT7 := bT.below hb7 lT
               obtain ⟨lT7, d70, d71⟩ := bT7.two
               have HT7 := Lib.hid (net_on HT.out hb7)
               have hB7 := hB4.trans (hb7.mono hz4')
               have hz7 := hB7.size
               clear hF7 hb7)
            | (go_at_call 14; (with_reducible refine (max_any _ _ _ _ P 0 1 _ HT7.out).mono ?_); rw [H1.out]; rintro e w8 ⟨a8, l8, c8, he, hF8, hb8⟩
               dsimp only at he hF8
               subst he))
          go_ret
          exact ⟨rfl, hB7.trans (hb8.mono hz7)⟩

theorem own : ownKnob Try.prog.godebug = none := by kernel_rfl
theorem laidOut : laidOutB Try.prog = true := by kernel_rfl

set_option maxRecDepth 100000 in
theorem lifted (os : Os) (started : os.Started) (H : Type) (enc : TypeId × Value → H) :
    ReturnsInHanded {} Try.checked os 10 .any (Rows.flowPartsSpec.pre6 enc Try.prog Try.f10 Rows.flowPartsRow.domain false) (Rows.flowPartsSpec.post enc Try.prog Try.f10 false true false false) := by
  refine returnsInHanded_of_change_sized (C := Try.checked) own started (by kernel_rfl) Try.func10
    (ChangeSpec.witness6 (enc := enc) (C := Try.checked) false ⟨#[], #[.agg #[.int .i64 0, .slice none 0 0], .int .i64 0, .int .i64 0], []⟩ 8 (by kernel_rfl) (by kernel_rfl) (by kernel_rfl) (by kernel_rfl)) ?_
  intro W base args ds gs before hval0 hW _ hsz0 _
  have hsz : (DataW.weightsEach Try.prog (Try.f10.params.toList ++ Rows.flowPartsSpec.plain.varTypes Try.prog) (ds ++ gs)).all (· ≤ reachBytes) = true := hsz0
  have hval : ∀ (j : Nat) t v, Try.f10.params[j]? = some t → args[j]? = some v → Value.okWide Try.prog W .any base t v := hval0
  have hW' := hW
  obtain ⟨p, q, hA0, hV, rfl, hfz, hnd⟩ := hW
  have hA : DataW.TrodAll enc Try.prog W 0 (fun _ => true) true Try.f10.params.toList args.toList ds p := hA0
  rw [Try.params10] at hA hval hsz
  obtain ⟨v0, vs0, d0, ds0, p0, q0, hargs, rfl, rfl, h0, r0⟩ := trodAll_cons hA
  obtain ⟨v1, vs1, d1, ds1, p1, q1, rfl, rfl, rfl, h1, r1⟩ := trodAll_cons r0
  obtain ⟨v2, vs2, d2, ds2, p2, q2, rfl, rfl, rfl, h2, r2⟩ := trodAll_cons r1
  obtain ⟨rfl, rfl, rfl⟩ := trodAll_nil r2
  obtain rfl : args = #[v0, v1, v2] := by cases args; simp_all
  obtain ⟨rfl, rfl⟩ := trodVars_none hV
  have k0 := h0
  have lt0 : ∀ x ∈ p0, x.block < W.heap.size := by obtain ⟨m, hm⟩ := k0; exact DataW.trod_lt m _ _ _ hm
  have k1 := h1
  have lt1 : ∀ x ∈ p1, x.block < W.heap.size := by obtain ⟨m, hm⟩ := k1; exact DataW.trod_lt m _ _ _ hm
  have k2 := h2
  have lt2 : ∀ x ∈ p2, x.block < W.heap.size := by obtain ⟨m, hm⟩ := k2; exact DataW.trod_lt m _ _ _ hm
  obtain ⟨n0, a0, len0, cap0, es0, rfl, b0⟩ := net_of (hval 0 24 v0 rfl rfl) k0 (weights_at hsz (j := 0) (t := 24) rfl rfl)
  have m0 := cap_of (hval 0 24 _ rfl rfl) k0
  obtain ⟨a1, rfl, rfl, rfl, w1⟩ := open_int Try.underlying3 (hval 1 3 v1 rfl rfl) h1
  have b1 := in_of_wf w1
  obtain ⟨a2, rfl, rfl, rfl, w2⟩ := open_int Try.underlying3 (hval 2 3 v2 rfl rfl) h2
  have b2 := in_of_wf w2
  clear hA0 hval0 hsz0 hsz
  refine (walk n0 a0 len0 cap0 es0 a1 a2 W ⟨b0, m0⟩ b1 b2).mono fun e W' ⟨he, bel⟩ => ?_
  subst he
  exact ⟨_, rfl, _, _, _, [], _, [], hW', trodAll_mk1 (shut_bool Try.underlying4 _), (trodAll_cons_mk (Below.trod laidOut (by kernel_rfl) (of_decide_eq_true (by kernel_rfl)) k0 bel lt0) (trodAll_cons_mk (Below.trod laidOut (by kernel_rfl) (of_decide_eq_true (by kernel_rfl)) k1 bel lt1) (trodAll_cons_mk (Below.trod laidOut (by kernel_rfl) (of_decide_eq_true (by kernel_rfl)) k2 bel lt2) trodAll_mk0))), rfl, bel.frame _, fun h => by cases h⟩

theorem over : Rows.flowPartsRow.holds Try.pinned (OpenSpec.ofChange Rows.flowPartsSpec) :=
  OpenClaim.holds_of_wide 10 Try.f10 rfl rfl rfl rfl rfl rfl rfl ⟨rfl, rfl, rfl, rfl, rfl⟩ rfl rfl rfl rfl rfl (by kernel_rfl) Try.func10 (by kernel_rfl)
    (of_decide_eq_true (by kernel_rfl)) (by unfold Func.isWrapper; first | (rw [if_pos (by decide +kernel)]; kernel_rfl) | (rw [if_neg (by decide +kernel)]; exact ⟨rfl, rfl⟩))
    (fun os started H enc _ => lifted os started H enc)

theorem proved : Rows.FlowPartsSaid := over
end Go.Proofs.Ytcbfgdiddhhhcaa.lawParts
