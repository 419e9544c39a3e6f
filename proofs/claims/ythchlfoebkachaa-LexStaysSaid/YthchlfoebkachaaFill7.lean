/-
  The program's own Fill, walked.
-/
import Derived.Deep.AppendLies
import Derived.Deep.DeepCutAuto
import Derived.Test.YthchlfoebkachaaMix
import Derived.Test.YthchlfoebkachaaSteps
import Derived.Test.YthchlfoebkachaaParts7
import Derived.Test.YthchlfoebkachaaPaths7
namespace Go.Proofs.Ythchlfoebkachaa
open Go.RowKit Gm

theorem formF_parts {n : Nat} {es : List E} {s t : Int} {order : List Int} {wss : List (List WayE)} : formF n es s t order wss = (endsF n es s t && srcsF es s order && (decide (wss.length ≤ order.length) && waysOk n es s t order wss)) := by
  unfold formF endsF srcsF
  rw [Int.toNat_natCast]
  simp only [Bool.and_assoc]
theorem formF_ends {v : Int} {es : List E} {s t : Int} {order : List Int} {wss : List (List WayE)} (h : endsF v es s t = false) : formF v es s t order wss = false := by
  rw [Bool.eq_false_iff]
  intro h2
  unfold formF at h2
  simp only [Bool.and_eq_true] at h2
  have : endsF v es s t = true := by
    unfold endsF
    simp only [Bool.and_eq_true]
    exact h2.1.1.1.1
  rw [h] at this; cases this
theorem got_set (F order : List Int) {j : Nat} (hj : j < order.length) : (gotF F (order.take j) ++ List.replicate (order.length - j) 0).set j (fa F (order[j]?.getD 0).toNat) = gotF F (order.take (j + 1)) ++ List.replicate (order.length - (j + 1)) 0 := by
  have hl : (gotF F (order.take j)).length = j := by rw [gotF_len, List.length_take]; omega
  rw [gotF_snoc F order hj, List.set_append_right _ _ (by omega), hl, Nat.sub_self, List.append_assoc]
  congr 1
  rw [show order.length - j = (order.length - (j + 1)) + 1 by omega, List.replicate_succ]
  rfl
theorem opened_next {es : List E} {s : Int} {order : List Int} {k m : Nat} (hk : k < order.length) (hm : order[k]?.getD 0 = (m : Int)) (hml : m < es.length) :
    (flat (opened es s (order.take k))).set (m * 3 + 2) (.int .i64 (ed es m).2.2) = flat (opened es s (order.take (k + 1))) := by
  have hl : m < (opened es s (order.take k)).length := by rw [opened_length]; exact hml
  rw [flat_set _ _ _ hl, List.take_succ_eq_append_getElem hk]
  rw [List.getElem?_eq_getElem hk] at hm
  have hm' : order[k] = (m : Int) := hm
  rw [hm', opened_snoc hml]
  congr 2
  have e : (opened es s (order.take k))[m] = openE s (order.take k) m es[m] := by simp [opened]
  have e2 : ed es m = es[m] := by unfold ed; rw [List.getElem?_eq_getElem hml]; rfl
  rw [e, (openE_ends s _ m _).1, (openE_ends s _ m _).2, e2]

structure FillAt (w : World) (n : Int) (a : Option Addr) (len cap M EB : Nat) (sa : Option Addr) (sc : Nat) (F : List E) (fv : Value) (cur : List Int) (wr : World) : Prop where
  net : Blk wr w.heap.size 24 #[.int .i64 n, .slice a len cap]
  box : Blk wr M 24 #[.int .i64 n, .slice sa len sc]
  row : wr.ownsRow EB 50 3 (.slice sa len sc) len (flat F)
  own : wr.ownsRow (w.heap.size + 1) 3 1 fv len (ints cur)
  low : Below w.heap.size w wr

set_option maxRecDepth 100000 in
set_option maxHeartbeats 8000000 in
theorem fill_any (v : Int) (a : Option Addr) (len cap : Nat) (es : List E) (s t : Int) (oa : Option Addr) (ol oc : Nat) (order : List Int) (wa : Option Addr) (wl wc : Nat) (wss : List (List WayE)) (w : World) (hE : NetAt w.heap.size w a len es) (hO : FlowAt w.heap.size w oa ol order) (hW : WayssAt w.heap.size w wa wl wss) :
    Calls Try.prog 10 #[netV v a len cap, .int .i64 s, .int .i64 t, .slice oa ol oc, .slice wa wl wc] w (FillPost (fillF v es s t order wss) w) := by
  obtain ⟨W0, hW0⟩ : ∃ W0, w.alloc (.cells #[.int .i64 v, .slice a len cap] 24) = W0 := ⟨_, rfl⟩
  have hB0 : Below w.heap.size w W0 := by rw [← hW0]; exact (Below.refl _ w).alloc (Nat.le_refl _) _
  have bN : Blk W0 w.heap.size 24 #[.int .i64 v, .slice a len cap] := by rw [← hW0]; exact Blk.new w _ _
  have HW0 := Lib.hid hW0
  have HlE := Lib.hid hE.1
  have HlO := Lib.hid hO.1
  have HlW := Lib.hid hW.1
  have HE := Lib.hid hE
  have HO := Lib.hid hO
  have HWW := Lib.hid hW
  have hz0 := hB0.size
  have HE0 := Lib.hid ((hE.below hB0).more hB0.size)
  have HO0 := Lib.hid ((hO.below hB0).more hB0.size)
  have HWW0 := Lib.hid ((hW.below hB0).more hB0.size)
  have hol := hO.2.1
  clear hW0 hE hO hW
  obtain ⟨g1, hg1⟩ : ∃ g, endsF v es s t = g := ⟨_, rfl⟩
  have HG1 := Lib.hid hg1
  clear hg1
  rcases g1 with _ | _
  · have HF : Hid (fillF v es s t order wss = ([], [], 50)) := Lib.hid (by unfold fillF; rw [formF_ends HG1.out]; simp)
    go_enter Try.func10, Try.ntmps10
    go_wp2_with (go_at_call 20; rw [HW0.out]; (with_reducible refine (areEnds_any _ _ _ _ es _ _ _ HE0.out).mono ?_); rw [HG1.out]; rintro e w1 ⟨rfl, hb1⟩)
    refine bodyPost_ret (v := .tuple #[.slice none 0 0, .slice none 0 0, .int .i64 50]) (by simp [results, Try.results10, go_sem]) rfl ?_
    rw [HF.out]
    exact ⟨none, 0, 0, none, 0, 0, rfl, ⟨rfl, by omega, 0, 0, .inl rfl, fun i hi => by simp at hi⟩, ⟨rfl, by omega, 0, 0, .inl rfl, fun i hi => by simp at hi⟩, Nat.le_refl _, hB0.trans (hb1.mono hz0)⟩
  · have hv : 2 ≤ v ∧ v ≤ 64 ∧ es.length ≤ 256 ∧ right v es = true ∧ 0 ≤ s ∧ s < v ∧ 0 ≤ t ∧ t < v := by
      have h := HG1.out
      unfold endsF at h
      simp only [Bool.and_eq_true, vtx, decide_eq_true_eq] at h
      have := right_iff.1 h.1.1.1
      exact ⟨this.1, this.2.1, this.2.2.1, h.1.1.1, h.1.1.2.1, h.1.1.2.2, h.1.2.1, h.1.2.2⟩
    obtain ⟨n, rfl⟩ : ∃ n : Nat, v = n := ⟨v.toNat, by omega⟩
    have hlen : len ≤ 256 := by have := hv.2.2.1; rw [HlE.out] at this; exact this
    have HRI := Lib.hid hv.2.2.2.1
    have HS0 := Lib.hid hv.2.2.2.2.1
    have HS1 := Lib.hid hv.2.2.2.2.2.1
    have hn64 : n ≤ 64 := by have := hv.2.1; omega
    clear hv
    obtain ⟨g2, hg2⟩ : ∃ g, srcsF es s order = g := ⟨_, rfl⟩
    have HG2 := Lib.hid hg2
    clear hg2
    rcases g2 with _ | _
    · have HF : Hid (fillF n es s t order wss = ([], [], 50)) := Lib.hid (by unfold fillF; rw [formF_parts, HG1.out, HG2.out]; simp)
      go_enter Try.func10, Try.ntmps10
      go_wp2_with first
        | (go_at_call 20; rw [HW0.out]; (with_reducible refine (areEnds_any _ _ _ _ es _ _ _ HE0.out).mono ?_); rw [HG1.out]; rintro e w1 ⟨rfl, hb1⟩
           obtain ⟨lN1, n0, n1⟩ := (bN.below hb1 bN.lt).two
           have HE1 := Lib.hid (net_on HE0.out hb1)
           have HO1 := Lib.hid (flow_on HO0.out hb1))
        | (go_at_call 21; (with_reducible refine (areSources_any _ _ _ _ es _ _ _ _ order _ HE1.out HO1.out hlen).mono ?_); rw [HG2.out]; rintro e w2 ⟨rfl, hb2⟩)
      refine bodyPost_ret (v := .tuple #[.slice none 0 0, .slice none 0 0, .int .i64 50]) (by simp [results, Try.results10, go_sem]) rfl ?_
      rw [HF.out]
      exact ⟨none, 0, 0, none, 0, 0, rfl, ⟨rfl, by omega, 0, 0, .inl rfl, fun i hi => by simp at hi⟩, ⟨rfl, by omega, 0, 0, .inl rfl, fun i hi => by simp at hi⟩, Nat.le_refl _, hB0.trans ((on_below hb1 hb2).mono hz0)⟩
    · have HSRC : Hid (∀ x ∈ order, isSrc es s x = true) := Lib.hid (by
        have h := HG2.out
        unfold srcsF at h
        exact List.all_eq_true.1 (Bool.and_eq_true_iff.1 h).1)
      obtain ⟨g3, hg3⟩ : ∃ g, (decide (wss.length ≤ order.length) && waysOk n es s t order wss) = g := ⟨_, rfl⟩
      have HG3 := Lib.hid hg3
      clear hg3
      rcases g3 with _ | _
      · have HF : Hid (fillF n es s t order wss = ([], [], 50)) := Lib.hid (by unfold fillF; rw [formF_parts, HG1.out, HG2.out, HG3.out]; simp)
        go_enter Try.func10, Try.ntmps10
        go_wp2_with first
          | (go_at_call 20; rw [HW0.out]; (with_reducible refine (areEnds_any _ _ _ _ es _ _ _ HE0.out).mono ?_); rw [HG1.out]; rintro e w1 ⟨rfl, hb1⟩
             have bN1 := bN.below hb1 bN.lt
             obtain ⟨lN1, n0, n1⟩ := bN1.two
             have HE1 := Lib.hid (net_on HE0.out hb1)
             have HO1 := Lib.hid (flow_on HO0.out hb1))
          | (go_at_call 21; (with_reducible refine (areSources_any _ _ _ _ es _ _ _ _ order _ HE1.out HO1.out hlen).mono ?_); rw [HG2.out]; rintro e w2 ⟨rfl, hb2⟩
             obtain ⟨lN2, m0, m1⟩ := (bN1.below hb2 lN1).two
             have hb12 := on_below hb1 hb2
             have HE2 := Lib.hid (net_on HE0.out hb12)
             have HO2 := Lib.hid (flow_on HO0.out hb12)
             have HWW2 := Lib.hid (wayss_on HWW0.out hb12))
          | (go_at_call 22; (with_reducible refine (areWays_any _ _ _ _ es s _ _ _ _ order _ _ _ wss _ HE2.out HO2.out HWW2.out HRI.out HS0.out HS1.out HSRC.out).mono ?_); rw [HG3.out]; rintro e w3 ⟨rfl, hb3⟩)
        refine bodyPost_ret (v := .tuple #[.slice none 0 0, .slice none 0 0, .int .i64 50]) (by simp [results, Try.results10, go_sem]) rfl ?_
        rw [HF.out]
        exact ⟨none, 0, 0, none, 0, 0, rfl, ⟨rfl, by omega, 0, 0, .inl rfl, fun i hi => by simp at hi⟩, ⟨rfl, by omega, 0, 0, .inl rfl, fun i hi => by simp at hi⟩, Nat.le_refl _, hB0.trans ((on_below hb12 hb3).mono hz0)⟩
      · have hF : formF n es s t order wss = true := by rw [formF_parts, HG1.out, HG2.out, HG3.out]; rfl
        have hFM := formF_iff.1 hF
        have HFF : Hid (fillF n es s t order wss = (fillK n es s t order wss order.length, order.map (fun x => fa (fillK n es s t order wss order.length) x.toNat), 0)) := Lib.hid (by unfold fillF; rw [hF]; simp)
        have hol2 : ol ≤ 256 := by have := form_len hFM; rw [HlE.out, HlO.out] at this; omega
        have hwl2 : wl ≤ ol := by have := hFM.len; rw [HlW.out, HlO.out] at this; exact this
        have HFM := Lib.hid hFM
        have hmk := make_ints len (by omega)
        have hmk2 := make_ints ol (by omega)
        have hK0 : Hid (List.replicate len (0 : Int) = fillK n es s t order wss 0) := Lib.hid (by rw [← HlE.out]; rfl)
        clear hF hFM
        go_enter Try.func10, Try.ntmps10
        go_wp2_with first
          | (go_at_call 20; rw [HW0.out]; (with_reducible refine (areEnds_any _ _ _ _ es _ _ _ HE0.out).mono ?_); rw [HG1.out]; rintro e w1 ⟨rfl, hb1⟩
             have bN1 := bN.below hb1 bN.lt
             obtain ⟨lN1, n0, n1⟩ := bN1.two
             have HE1 := Lib.hid (net_on HE0.out hb1)
             have HO1 := Lib.hid (flow_on HO0.out hb1))
          | (go_at_call 21; (with_reducible refine (areSources_any _ _ _ _ es _ _ _ _ order _ HE1.out HO1.out hlen).mono ?_); rw [HG2.out]; rintro e w2 ⟨rfl, hb2⟩
             have bN2 := bN1.below hb2 lN1
             obtain ⟨lN2, m0, m1⟩ := bN2.two
             have hb12 := on_below hb1 hb2
             have HE2 := Lib.hid (net_on HE0.out hb12)
             have HO2 := Lib.hid (flow_on HO0.out hb12)
             have HWW2 := Lib.hid (wayss_on HWW0.out hb12)
             clear n0 n1)
          | (go_at_call 22; (with_reducible refine (areWays_any _ _ _ _ es s _ _ _ _ order _ _ _ wss _ HE2.out HO2.out HWW2.out HRI.out HS0.out HS1.out HSRC.out).mono ?_); rw [HG3.out]; rintro e w3 ⟨rfl, hb3⟩
             have bN3 := bN2.below hb3 lN2
             obtain ⟨lN3, p0, p1⟩ := bN3.two
             have hB3 : Below w.heap.size w w3 := hB0.trans ((on_below hb12 hb3).mono hz0)
             have hz3 := hB3.size
             have hown3 := own_rep w3 (w.heap.size + 1) len (by omega) (by omega)
             have bN4 := bN3.alloc (.cells (Array.replicate len (.int .i64 0)) 3)
             have hB4 := hB3.alloc hz3 (.cells (Array.replicate len (.int .i64 0)) 3)
             obtain ⟨w4, hw4⟩ : ∃ W, w3.alloc (.cells (Array.replicate len (.int .i64 0)) 3) = W := ⟨_, rfl⟩
             rw [hw4] at hown3 bN4 hB4
             have HW4 := Lib.hid hw4
             have HZ := Lib.hid (show w3.heap.size = w3.heap.size from rfl)
             have HE4 := Lib.hid ((HE.out.below hB4).more hB4.size)
             clear m0 m1 hb1 hb2 hb3 hb12 hw4)
          | (go_at_call 23; rw [HW4.out]; (with_reducible refine (closed_any _ _ _ _ es s _ HE4.out (by omega)).mono ?_); rintro e w5 ⟨sa, sc, rfl, _, hrow, hb5⟩
             have hrl : (opened es s []).length = len := by rw [opened_length, HlE.out]
             rw [hrl] at hrow ⊢
             clear hrl)
        have hB5 := hB4.trans (hb5.mono hB4.size)
        have hI0 : FillAt w n a len cap w5.heap.size w4.heap.size sa sc (opened es s (order.take 0)) (.slice (some ⟨w3.heap.size, 0, none⟩) len len) (fillK n es s t order wss 0) (w5.alloc (.cells #[.int .i64 (n : Int), .slice sa len sc] 24)) :=
          ⟨(bN4.below hb5 bN4.lt).alloc _, Blk.new w5 _ _, by rw [List.take_zero]; exact hrow.alloc _, by rw [← hK0.out]; exact (own_below hown3 hb5).alloc _, hB5.alloc hB5.size _⟩
        have HI0 := Lib.hid hI0
        have hEB0 : w.heap.size + 1 ≤ w4.heap.size := bN4.lt
        have hM0 : w4.heap.size ≤ w5.heap.size := hb5.size
        clear hI0 p0 p1 hB5 hb5 hrow hown3 bN4 hB4 bN hB0 hmk HE4 HE0 HO0 HWW0
        generalize hEBg : w4.heap.size = EB at *
        generalize hMg : w5.heap.size = M at *
        clear hEBg hMg
        go_loopw [13, 49] (fun fv kv wr => ∃ k : Nat, k ≤ ol ∧ kv = .int .i64 k ∧ FillAt w n a len cap M EB sa sc (opened es s (order.take k)) fv (fillK n es s t order wss k) wr) (fun _ kv _ => ol - (intOf kv).toNat)
        case atStart => exact ⟨0, Nat.zero_le _, rfl, HI0.out⟩
        case round =>
          clear HI0
          obtain ⟨k, hk, rfl, hI⟩ := hrel
          obtain ⟨w6, rfl⟩ : ∃ w', w' = wr := ⟨_, rfl⟩
          have hz6 := hI.low.size
          have hst := (fill_stage HFM.out k (by rw [HlO.out]; exact hk)).1
          have hcl : (fillK n es s t order wss k).length = len := by rw [fillK_len _ _ _ _ _ _ HFM.out (by rw [HlO.out]; exact hk), HlE.out]
          obtain ⟨fA, fC, rfl⟩ := own_form hI.own
          obtain ⟨cur, hcur⟩ : ∃ cur, fillK n es s t order wss k = cur := ⟨_, rfl⟩
          rw [hcur] at hI hcl
          have HCUR := Lib.hid hcur
          have HI := Lib.hid hI
          have HCL := Lib.hid hcl
          obtain ⟨lN, n0, n1⟩ := hI.net.two
          obtain ⟨lM, m0, m1⟩ := hI.box.two
          have HO6 := Lib.hid ((HO.out.below hI.low).more hI.low.size)
          have HWW6 := Lib.hid (HWW.out.below hI.low)
          have HE6 := Lib.hid (HE.out.below hI.low)
          clear hcur hcl hI hst
          by_cases hlt : k < ol
          · have hko : k < order.length := by rw [HlO.out]; exact hlt
            obtain ⟨ob, oo, hoa, hoc⟩ := HO6.out.2.2.int
            obtain ⟨hob, co⟩ := hoc k hko
            obtain rfl : oa = some ⟨ob, oo, none⟩ := by
              rcases hoa with h | h
              · omega
              · exact h
            have hsx := isSrc_iff.1 (HSRC.out _ (List.getElem_mem hko))
            obtain ⟨m, hm⟩ : ∃ m : Nat, order[k] = (m : Int) := ⟨order[k].toNat, by omega⟩
            rw [hm] at hsx
            have hxm : order[k]?.getD 0 = (m : Int) := by rw [List.getElem?_eq_getElem hko]; exact hm
            rw [hxm] at co
            have hml : m < es.length := by have := hsx.2.1; omega
            have hmlen : m < len := by rw [← HlE.out]; exact hml
            obtain ⟨b, off, ha, hc⟩ := HE6.out.2.2
            obtain ⟨hb, c0, c1, c2⟩ := hc m hml
            obtain rfl : a = some ⟨b, off, none⟩ := by
              rcases ha with h | h
              · omega
              · exact h
            have hed : ed es m = es[m] := by unfold ed; rw [List.getElem?_eq_getElem hml]; rfl
            rw [← hed] at c2
            obtain ⟨x, hx⟩ : ∃ x, (ed es m).2.2 = x := ⟨_, rfl⟩
            rw [hx] at c2
            have hfl : (opened es s (order.take k)).length = len := by rw [opened_length, HlE.out]
            obtain ⟨g, hg, hg0, hg1, f0, f1, f2⟩ := own_edge (l := opened es s (order.take k)) (by rw [hfl]; exact HI.out.row) (by rw [hfl]; omega) (show m < (opened es s (order.take k)).length by rw [hfl]; exact hmlen)
            subst hg
            have hfz := HI.out.row.frozenAt (m * 3 + 2)
            have hnx := opened_next (s := s) hko hxm hml
            rw [hx] at hnx
            have HNX := Lib.hid hnx
            have HKO := Lib.hid hko
            have HXM := Lib.hid hxm
            have HG0 := Lib.hid hg0
            have HX := Lib.hid hx
            obtain ⟨y, hy⟩ : ∃ y, (opened es s (order.take k))[m].2.2 = y := ⟨_, rfl⟩
            rw [hy] at f2
            have hmi : (m : Int) < (len : Int) := by omega
            have hki : (k : Int) < (ol : Int) := by omega
            have hob6 : ob < w6.heap.size := by omega
            have hb6 : b < w6.heap.size := by omega
            have hcells : ∀ W, Below w6.heap.size w6 W → W.cell? ⟨w.heap.size, 1, none⟩ = some (.slice (some ⟨b, off, none⟩) len cap) ∧ W.cell? ⟨M, 1, none⟩ = some (.slice (some ⟨g, 0, none⟩) len sc) ∧ W.cell? ⟨b, off + m * 3 + 2, none⟩ = some (.int .i64 x) := fun W h => ⟨(HI.out.net.below h lN).two.2.2, (HI.out.box.below h lM).two.2.2, (h.cell (p := ⟨b, off + m * 3 + 2, none⟩) hb6).trans c2⟩
            have HCE := Lib.hid hcells
            have HF2 := Lib.hid f2
            have HFZ := Lib.hid hfz
            clear hoa hoc hsx hm hxm ha hc c0 c1 c2 hed hx hfl f0 f1 f2 hfz hnx hy hcells hko
            clear hml
            go_upto_region 8 with fail
            have hB := below_drew (Below.refl w6.heap.size w6)
            refine region_mix (fun W => Below w6.heap.size w6 W) (9) (.reads [0, 1, 2, 3, 4, 5, 6, 7, 8] (.only 9 (.only 10 (.only 11 (.stop))))) (by kernel_rfl) (by kernel_rfl) (hB) ?_
            obtain ⟨wq, hwq⟩ : ∃ W, w6.drew = W := ⟨_, rfl⟩
            rw [hwq] at hB ⊢
            clear hwq
            repeat (
              refine plan_read rfl (fun K hK => ?_)
              first
                | (refine plan_neg ?_ ?_
                   focus (go_simp; done)
                   go_simp
                   refine hK _ ?_
                   clear hK K)
                | (apply plan_pos
                   focus (go_simp; done)
                   focus (
                     intro W hW
                     (obtain ⟨d0, d1, d2⟩ := HCE.out W hW)
                     go_simp
                     first
                       | done
                       | exact rfl)
                   go_simp
                   refine hK _ ?_
                   clear hK K))
            have e2 : wq.cell? ⟨g, m * 3 + 2, none⟩ = some (.int .i64 y) := (hB.cell (p := ⟨g, m * 3 + 2, none⟩) hg1).trans HF2.out
            have e3 : wq.frozen? ⟨g, m * 3 + 2, none⟩ = false := (hB.frozen (p := ⟨g, m * 3 + 2, none⟩) hg1).trans HFZ.out
            have hgc : g < wq.heap.size := Nat.lt_of_lt_of_le hg1 hB.size
            refine plan_only rfl (fun Q hQ => ?_)
            go_wp2
            refine hQ _ _ (fun h => absurd h (by omega)) ?_
            clear hQ Q
            refine plan_only rfl (fun Q hQ => ?_)
            go_wp2
            refine hQ _ _ (fun h => absurd h (by omega)) ?_
            clear hQ Q
            refine plan_only rfl (fun Q hQ => ?_)
            go_wp2
            refine hQ _ _ (fun h => absurd h (by omega)) ?_
            clear hQ Q
            unfold Plan.wp
            have hge : w.heap.size < g := Nat.lt_of_lt_of_le (by omega) HG0.out
            have hI7 : FillAt w n (some ⟨b, off, none⟩) len cap M EB (some ⟨g, 0, none⟩) sc (opened es s (order.take (k + 1))) (.slice fA len fC) cur (wq.setCell ⟨g, m * 3 + 2, none⟩ (.int .i64 x)) := by
              have hrow := own_below HI.out.row hB
              have hown := own_below HI.out.own hB
              have hbox := HI.out.box.below hB HI.out.box.lt
              refine ⟨(HI.out.net.below hB HI.out.net.lt).far (p := ⟨g, m * 3 + 2, none⟩) (by simp; omega) _, hbox.far (p := ⟨g, m * 3 + 2, none⟩) (fun e => own_blk_ne hrow hbox (by decide) (by rw [show g = M from (show M = g by simpa using e).symm]; rfl)) _, ?_, ownsRow_setCell_other hown (a := ⟨g, m * 3 + 2, none⟩) (fun e => own_ne hown hrow (by decide) _ e (by simp [Value.ownBlock])) _, (HI.out.low.trans (hB.mono hz6)).setCell (p := ⟨g, m * 3 + 2, none⟩) (by simp; omega) _⟩
              have h := (hrow.stored (m * 3 + 2) (.int .i64 x)).1
              rw [HNX.out] at h
              exact h
            have HI7 := Lib.hid hI7
            obtain ⟨w7, hw7⟩ : ∃ W, wq.setCell ⟨g, m * 3 + 2, none⟩ (.int .i64 x) = W := ⟨_, rfl⟩
            rw [hw7] at HI7 ⊢
            have hz7 := HI7.out.low.size
            have HWW7 := Lib.hid (HWW.out.below HI7.out.low)
            have HE7 := Lib.hid (HE.out.below HI7.out.low)
            obtain ⟨lN7, y0, y1⟩ := HI7.out.net.two
            obtain ⟨lM7, z0, z1⟩ := HI7.out.box.two
            clear hI7 hw7 e2 e3 hgc hB n0 n1 m0 m1 HCE HF2 HFZ HI HNX HWW6 HE6 HO6 co
            by_cases hkw : k < wl
            · have hkW : k < wss.length := by rw [HlW.out]; exact hkw
              obtain ⟨_, wb, wo, hwa, hwcc⟩ := HWW7.out
              obtain ⟨hwb, ma, ml, mc, cw, hmw⟩ := hwcc k hkW
              obtain rfl : wa = some ⟨wb, wo, none⟩ := by
                rcases hwa with h | h
                · omega
                · exact h
              obtain ⟨mine, hmine⟩ : ∃ l, wss[k] = l := ⟨_, rfl⟩
              rw [hmine] at hmw
              have HMINE : Hid (wss[k]?.getD [] = mine) := Lib.hid (by rw [List.getElem?_eq_getElem hkW]; exact hmine)
              have HMW := Lib.hid hmw
              obtain ⟨C, hC⟩ : ∃ C, mine.foldl (goW es) cur = C := ⟨_, rfl⟩
              have HC := Lib.hid hC
              have HGOOD : Hid (∀ j, j ≤ mine.length → GoodG n es (goN es cur mine j) s t) := Lib.hid (fun j _ => by
                have h := (goN_good HFM.out (i := k) (by rw [HlO.out]; exact hlt) j).1
                rw [HCUR.out, HMINE.out] at h
                exact h.whole HFM.out.net)
              have HWAYS : Hid (∀ p ∈ mine, isWayF n es s t (m : Int) p = true) := Lib.hid (by
                have h := (goN_good HFM.out (i := k) (by rw [HlO.out]; exact hlt) 0).2
                rw [HMINE.out, HXM.out] at h
                exact h)
              have hkwI : (k : Int) < (wl : Int) := by omega
              have hwb7 : wb < w7.heap.size := by omega
              have hcells : ∀ W, Below w7.heap.size w7 W → W.cell? ⟨w.heap.size, 0, none⟩ = some (.int .i64 (n : Int)) ∧ W.cell? ⟨w.heap.size, 1, none⟩ = some (.slice (some ⟨b, off, none⟩) len cap) ∧ W.cell? ⟨wb, wo + k, none⟩ = some (.slice ma ml mc) := fun W h => ⟨(HI7.out.net.below h lN7).two.2.1, (HI7.out.net.below h lN7).two.2.2, (h.cell (p := ⟨wb, wo + k, none⟩) hwb7).trans cw⟩
              have HCE := Lib.hid hcells
              clear hwa hwcc hmine hmw hC cw hcells hkW y0 y1
              go_upto_region 10 with fail
              have hB := below_drew (Below.refl w7.heap.size w7)
              refine region_mix (fun W => Below w7.heap.size w7 W) (6) (.reads [0, 1, 2, 3, 4, 5] (.only 6 (.stop))) (by kernel_rfl) (by kernel_rfl) (hB) ?_
              obtain ⟨wq, hwq⟩ : ∃ W, w7.drew = W := ⟨_, rfl⟩
              rw [hwq] at hB ⊢
              clear hwq
              repeat (
                refine plan_read rfl (fun K hK => ?_)
                first
                  | (refine plan_neg ?_ ?_
                     focus (go_simp; done)
                     go_simp
                     refine hK _ ?_
                     clear hK K)
                  | (apply plan_pos
                     focus (go_simp; done)
                     focus (
                       intro W hW
                       (obtain ⟨d0, d1, d2⟩ := HCE.out W hW)
                       go_simp
                       first
                         | done
                         | exact rfl)
                     go_simp
                     refine hK _ ?_
                     clear hK K))
              have hI7q : FillAt w n (some ⟨b, off, none⟩) len cap M EB (some ⟨g, 0, none⟩) sc (opened es s (order.take (k + 1))) (.slice fA len fC) cur wq := ⟨HI7.out.net.below hB lN7, HI7.out.box.below hB lM7, own_below HI7.out.row hB, own_below HI7.out.own hB, HI7.out.low.trans (hB.mono hz7)⟩
              have HIQ := Lib.hid hI7q
              have HEQ := Lib.hid (HE.out.below hI7q.low)
              have HMQ := Lib.hid (HMW.out.below (hB.mono hz7))
              have hzq := hI7q.low.size
              clear hI7q hB
              refine plan_only rfl (fun Q hQ => ?_)
              go_wp2_with (go_at_call 24; (with_reducible refine (addPaths_any n _ _ _ es _ _ _ (w.heap.size + 1) w.heap.size cur s t (m : Int) _ _ _ mine _ hzq HEQ.out (Nat.le_succ _) HIQ.out.own HMQ.out HRI.out HGOOD.out HWAYS.out).mono ?_); rw [HC.out]; rintro e w8 ⟨rfl, ho8, hg8⟩)
              refine hQ _ _ (fun h => absurd h (by omega)) ?_
              clear hQ Q
              unfold Plan.wp
              have hI8 : FillAt w n (some ⟨b, off, none⟩) len cap M EB (some ⟨g, 0, none⟩) sc (opened es s (order.take (k + 1))) (.slice fA len fC) C w8 :=
                ⟨HIQ.out.net.kept hg8 (own_blk_ne HIQ.out.own HIQ.out.net (by decide)).symm, HIQ.out.box.kept hg8 (own_blk_ne HIQ.out.own HIQ.out.box (by decide)).symm, own_kept HIQ.out.row hg8 (fun g e e2 => own_ne HIQ.out.row HIQ.out.own (by decide) g e e2), ho8, HIQ.out.low.grown hg8 hzq (fun i e => by have := (HIQ.out.own.lt i e).1; omega)⟩
              have HI8 := Lib.hid hI8
              clear hI8 ho8 hg8 HIQ HEQ HMQ z0 z1 HI7
              have hgd := (goN_good HFM.out (i := k) (by rw [HlO.out]; exact hlt) mine.length).1
              rw [HCUR.out, HMINE.out, goN_all es cur mine rfl, HC.out] at hgd
              have HRES : Hid (pushF n (opened es s (order.take (k + 1))) C s t 1073741824 = (fillK n es s t order wss (k + 1), (pushed n (opened es s (order.take (k + 1))) s t 1073741824 (C, 0)).2, 0)) := Lib.hid (by
                unfold pushF
                rw [goodG_iff.2 hgd]
                have e : fillK n es s t order wss (k + 1) = (pushed n (opened es s (order.take (k + 1))) s t 1073741824 (C, 0)).1 := by
                  show stageF n es s t (order.take (k + 1)) (wss[k]?.getD []) (fillK n es s t order wss k) = _
                  unfold stageF
                  rw [HCUR.out, HMINE.out, HC.out]
                rw [e]; simp)
              have hgl : C.length = len := by rw [hgd.len, opened_length, HlE.out]
              have hFl : (opened es s (order.take (k + 1))).length = len := by rw [opened_length, HlE.out]
              have hnl : (fillK n es s t order wss (k + 1)).length = len := by rw [fillK_len _ _ _ _ _ _ HFM.out (by rw [HlO.out]; omega), HlE.out]
              have HNL := Lib.hid hnl
              have HN8 : Hid (NetAt w8.heap.size w8 (some ⟨g, 0, none⟩) len (opened es s (order.take (k + 1)))) := Lib.hid (by
                have h := HI8.out.row
                rw [← hFl] at h
                have := (edges_own (a := some ⟨g, 0, none⟩) (len := len) (cap := sc) (by rw [hFl] at h ⊢; exact h) (by omega)).2
                exact this)
              have HF8 : Hid (FlowAt w8.heap.size w8 fA len C) := Lib.hid (by
                have h := HI8.out.own
                rw [← hgl] at h
                have := (ints_own (a := fA) (len := len) (cap := fC) (by rw [hgl] at h ⊢; exact h) (by omega)).2
                exact this)
              have hz8 := HI8.out.low.size
              obtain ⟨lM8, x0, x1⟩ := HI8.out.box.two
              clear hgd hgl hFl hnl
              go_wp2_with (go_at_call 25; (with_reducible refine (push_own _ _ _ _ (opened es s (order.take (k + 1))) _ _ _ C s t 1073741824 _ HN8.out HF8.out (by simp [I64])).mono ?_); rw [HRES.out]; rintro e w9 ⟨pa, pl, pc, he, _, hO9, hb9⟩
                           dsimp only at he hO9
                           subst he)
              go_roundw
              case rel =>
                rw [HNL.out] at hO9
                exact ⟨k + 1, by omega, by go_num, HI8.out.net.below hb9 HI8.out.net.lt, HI8.out.box.below hb9 HI8.out.box.lt, own_below HI8.out.row hb9, own_less hO9 (by have := HI8.out.net.lt; omega), HI8.out.low.trans (hb9.mono hz8)⟩
              case measure => simp [intOf]; omega
            · have HMINE : Hid (wss[k]?.getD [] = []) := Lib.hid (by rw [List.getElem?_eq_none (by rw [HlW.out]; omega)]; rfl)
              obtain ⟨C, hC⟩ : ∃ C, ([] : List WayE).foldl (goW es) cur = C := ⟨_, rfl⟩
              have HC := Lib.hid hC
              have hkwI : ¬ (k : Int) < (wl : Int) := by omega
              have hCc : cur = C := hC
              rw [hCc] at HI7
              obtain ⟨w8, rfl⟩ : ∃ W, W = w7 := ⟨_, rfl⟩
              have HI8 := HI7
              clear hC hCc HI7 z0 z1 y0 y1
              have hgd := (goN_good HFM.out (i := k) (by rw [HlO.out]; exact hlt) ([] : List WayE).length).1
              rw [HCUR.out, HMINE.out, goN_all es cur [] rfl, HC.out] at hgd
              have HRES : Hid (pushF n (opened es s (order.take (k + 1))) C s t 1073741824 = (fillK n es s t order wss (k + 1), (pushed n (opened es s (order.take (k + 1))) s t 1073741824 (C, 0)).2, 0)) := Lib.hid (by
                unfold pushF
                rw [goodG_iff.2 hgd]
                have e : fillK n es s t order wss (k + 1) = (pushed n (opened es s (order.take (k + 1))) s t 1073741824 (C, 0)).1 := by
                  show stageF n es s t (order.take (k + 1)) (wss[k]?.getD []) (fillK n es s t order wss k) = _
                  unfold stageF
                  rw [HCUR.out, HMINE.out, HC.out]
                rw [e]; simp)
              have hgl : C.length = len := by rw [hgd.len, opened_length, HlE.out]
              have hFl : (opened es s (order.take (k + 1))).length = len := by rw [opened_length, HlE.out]
              have hnl : (fillK n es s t order wss (k + 1)).length = len := by rw [fillK_len _ _ _ _ _ _ HFM.out (by rw [HlO.out]; omega), HlE.out]
              have HNL := Lib.hid hnl
              have HN8 : Hid (NetAt w8.heap.size w8 (some ⟨g, 0, none⟩) len (opened es s (order.take (k + 1)))) := Lib.hid (by
                have h := HI8.out.row
                rw [← hFl] at h
                have := (edges_own (a := some ⟨g, 0, none⟩) (len := len) (cap := sc) (by rw [hFl] at h ⊢; exact h) (by omega)).2
                exact this)
              have HF8 : Hid (FlowAt w8.heap.size w8 fA len C) := Lib.hid (by
                have h := HI8.out.own
                rw [← hgl] at h
                have := (ints_own (a := fA) (len := len) (cap := fC) (by rw [hgl] at h ⊢; exact h) (by omega)).2
                exact this)
              have hz8 := HI8.out.low.size
              obtain ⟨lM8, x0, x1⟩ := HI8.out.box.two
              clear hgd hgl hFl hnl
              go_wp2_with (go_at_call 25; (with_reducible refine (push_own _ _ _ _ (opened es s (order.take (k + 1))) _ _ _ C s t 1073741824 _ HN8.out HF8.out (by simp [I64])).mono ?_); rw [HRES.out]; rintro e w9 ⟨pa, pl, pc, he, _, hO9, hb9⟩
                           dsimp only at he hO9
                           subst he)
              go_roundw
              case rel =>
                rw [HNL.out] at hO9
                exact ⟨k + 1, by omega, by go_num, HI8.out.net.below hb9 HI8.out.net.lt, HI8.out.box.below hb9 HI8.out.box.lt, own_below HI8.out.row hb9, own_less hO9 (by have := HI8.out.net.lt; omega), HI8.out.low.trans (hb9.mono hz8)⟩
              case measure => simp [intOf]; omega
          · obtain rfl : k = ol := by omega
            have HF : Hid (fillF n es s t order wss = (cur, gotF cur order, 0)) := Lib.hid (by rw [HFF.out, HlO.out, HCUR.out]; rfl)
            have HFL : Hid (FlowAt w6.heap.size w6 fA len cur) := Lib.hid (by
              have h := HI.out.own
              rw [← HCL.out] at h
              have := (ints_own (a := fA) (len := len) (cap := fC) (by rw [HCL.out] at h ⊢; exact h) (by rw [HCL.out]; omega)).2
              exact this)
            have HLOW := Lib.hid HI.out.low
            have hT0 := own_rep w6 w6.heap.size k (Nat.le_refl _) (by omega)
            have hTB := (Below.refl w6.heap.size w6).alloc (Nat.le_refl _) (.cells (Array.replicate k (.int .i64 0)) 3)
            have HT0 := Lib.hid hT0
            have HTB := Lib.hid hTB
            clear hlt hT0 hTB n0 n1 m0 m1 lN lM HWW6 HE6
            go_wp2
            go_loopw [91] (fun kv wr => ∃ j : Nat, j ≤ k ∧ kv = .int .i64 j ∧ wr.ownsRow w6.heap.size 3 1 (.slice (some ⟨w6.heap.size, 0, none⟩) k k) k (ints (gotF cur (order.take j) ++ List.replicate (order.length - j) 0)) ∧ Below w6.heap.size w6 wr) (fun kv _ => k - (intOf kv).toNat)
            case atStart =>
              refine ⟨0, Nat.zero_le _, rfl, ?_, HTB.out⟩
              have h := HT0.out
              have e : gotF cur (order.take 0) ++ List.replicate (order.length - 0) 0 = List.replicate k 0 := by rw [HlO.out]; simp [gotF]
              rw [e]; exact h
            case round =>
              clear HT0 HTB hmk2
              obtain ⟨j, hj, rfl, hG, hB⟩ := hrel
              obtain ⟨w7, rfl⟩ : ∃ w', w' = wr := ⟨_, rfl⟩
              have hz7 := hB.size
              have hLl : (gotF cur (order.take j) ++ List.replicate (order.length - j) 0).length = k := by rw [List.length_append, gotF_len, List.length_take, List.length_replicate, HlO.out]; omega
              by_cases hlj : j < k
              · have hjo : j < order.length := by rw [HlO.out]; exact hlj
                have hsn := got_set cur order hjo
                have hsr := isSrc_iff.1 (HSRC.out _ (List.getElem_mem hjo))
                obtain ⟨ob, oo, hoa, hoc⟩ := (HO6.out.below hB).2.2.int
                obtain ⟨hob, co⟩ := hoc j hjo
                obtain rfl : oa = some ⟨ob, oo, none⟩ := by
                  rcases hoa with h | h
                  · omega
                  · exact h
                obtain ⟨x, hx⟩ : ∃ x, order[j]?.getD 0 = x := ⟨_, rfl⟩
                have hxx : order[j] = x := by rw [← hx, List.getElem?_eq_getElem hjo]; rfl
                rw [hxx] at hsr
                rw [hx] at co hsn
                obtain ⟨fb, fo, hfa, hfc⟩ := (HFL.out.below hB).2.2.int
                have hxl : x.toNat < cur.length := by rw [HCL.out, ← HlE.out]; omega
                obtain ⟨hfb, cf⟩ := hfc x.toNat hxl
                obtain rfl : fA = some ⟨fb, fo, none⟩ := by
                  rcases hfa with h | h
                  · omega
                  · exact h
                have hxlen : x < (len : Int) := by have := hsr.2.1; rw [HlE.out] at this; exact this
                have hx0 := hsr.1
                obtain ⟨y, hy⟩ : ∃ y, fa cur x.toNat = y := ⟨_, rfl⟩
                have hy' : cur[x.toNat]?.getD 0 = y := hy
                rw [hy'] at cf
                rw [hy] at hsn
                have HSN := Lib.hid hsn
                have hji : (j : Int) < (k : Int) := by omega
                have hob7 : ob < w7.heap.size := by omega
                have hfb7 : fb < w7.heap.size := by omega
                obtain ⟨tg, htg, _, htg1, ct⟩ := own_int (by rw [hLl]; exact hG) (show j < _ by rw [hLl]; exact hlj)
                injection htg with htg
                injection htg with htg _ _
                subst htg
                obtain ⟨z, hz⟩ : ∃ z, (gotF cur (order.take j) ++ List.replicate (order.length - j) 0)[j]?.getD 0 = z := ⟨_, rfl⟩
                rw [hz] at ct
                have hfz := hG.frozenAt j
                have HG := Lib.hid hG
                clear hsn hsr hoa hoc hx hxx hfa hfc hxl hy hy' hjo hz hLl hG
                go_wp2
                go_roundw
                case rel =>
                  refine ⟨j + 1, by omega, by go_num, ?_, hB.setCell (p := ⟨w6.heap.size, j, none⟩) (by simp) _⟩
                  have h := (HG.out.stored j (.int .i64 y)).1
                  rw [← HSN.out]
                  generalize gotF cur (order.take j) ++ List.replicate (order.length - j) 0 = L at h ⊢
                  rw [show ints (L.set j y) = (ints L).set j (.int .i64 y) by simp [List.map_set]]
                  exact h
                case measure => simp [intOf]; omega
              · obtain rfl : j = k := by omega
                have hgl : (gotF cur order).length = j := by rw [gotF_len, HlO.out]
                have e : gotF cur (order.take j) ++ List.replicate (order.length - j) 0 = gotF cur order := by
                  rw [List.take_of_length_le (by rw [HlO.out]; exact Nat.le_refl _), HlO.out, Nat.sub_self]; simp
                rw [e] at hG
                have hGF : FlowAt w7.heap.size w7 (some ⟨w6.heap.size, 0, none⟩) j (gotF cur order) := (ints_own (cap := j) (by rw [hgl]; exact hG) (by omega)).2
                have HGF := Lib.hid hGF
                clear hgl e hG hGF hLl
                go_wp2
                refine bodyPost_ret (v := .tuple #[.slice fA len fC, .slice (some ⟨w6.heap.size, 0, none⟩) j j, .int .i64 0]) (by simp [results, Try.results10, go_sem]) rfl ?_
                rw [HF.out]
                exact ⟨fA, len, fC, _, j, j, rfl, flow_on HFL.out hB, HGF.out, Nat.le_refl _, HLOW.out.trans (hB.mono hz6)⟩
end Go.Proofs.Ythchlfoebkachaa
