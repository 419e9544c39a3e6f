/-
  The document's own Fill, walked.
-/
import Derived.Deep.AppendLies
import Derived.Deep.DeepCutAuto
import Derived.Test.YthchlfoebkachaaMix
import Derived.Test.YthchlfoebkachaaQpush
import Derived.Test.YthchlfoebkachaaQopen
import Derived.Test.YthchlfoebkachaaQform
import Derived.Test.YthchlfoebkachaaSlices7
import Derived.Test.YthchlfoebkachaaNumbers7
import Derived.Test.YthchlfoebkachaaOrder
namespace Go.Proofs.Ythchlfoebkachaa
open Go.RowKit Gm

/-- A block of zeros, just made, is owned. -/
theorem own_rep (W : World) (base n : Nat) (h : base ≤ W.heap.size) (hn : n ≤ 100000) : (W.alloc (.cells (Array.replicate n (.int .i64 0)) 3)).ownsRow base 3 1 (.slice (some ⟨W.heap.size, 0, none⟩) n n) n (ints (List.replicate n 0)) :=
  ⟨by simp, .inr ⟨W.heap.size, n, Array.replicate n (.int .i64 0), rfl, h, World.alloc_heap_new W _, Nat.le_refl _, by simp [maxLen]; omega, by simp, by simp⟩⟩
/-- What flows in each of a list. -/
def gotF (F : List Int) (order : List Int) : List Int := order.map (fun x => fa F x.toNat)
theorem gotF_len (F order : List Int) : (gotF F order).length = order.length := by simp [gotF]
theorem gotF_snoc (F order : List Int) {k : Nat} (hk : k < order.length) : gotF F (order.take (k + 1)) = gotF F (order.take k) ++ [fa F (order[k]?.getD 0).toNat] := by
  unfold gotF; rw [List.take_succ_eq_append_getElem hk, List.getElem?_eq_getElem hk, List.map_append]; rfl

def FillPost (r : List Int × List Int × Int) (w : World) (e : Ending) (w' : World) : Prop :=
  ∃ a l c b m d, e = .returned (.tuple #[.slice a l c, .slice b m d, .int .i64 r.2.2]) ∧ FlowAt w'.heap.size w' a l r.1 ∧ FlowAt w'.heap.size w' b m r.2.1 ∧ m ≤ d ∧ Below w.heap.size w w'

theorem fillK_len (n : Nat) (es : List E) (s t : Int) (order : List Int) (ways : List (List WayE)) (h : Gm.Form n es s t order ways) {i : Nat} (hi : i ≤ order.length) : (fillK n es s t order ways i).length = es.length := by have := (fill_stage h i hi).1.good.len; rwa [opened_length] at this
/-- What stands behind open := Open(..). -/
def OpPost (n : Int) (F : List E) (w2 : World) (s : Value) (wx : World) : Prop :=
  ∃ M a5 c5, s = .pointer (some ⟨M, 0, none⟩) ∧ w2.heap.size ≤ M ∧ Blk wx M 24 #[.int .i64 n, .slice a5 F.length c5] ∧ wx.ownsRow w2.heap.size 50 3 (.slice a5 F.length c5) F.length (flat F) ∧ Below w2.heap.size w2 wx
/-- What stands while the ways are gone: the network, the flow, the network that is open. -/
structure InAt (w w2 : World) (n : Int) (a : Option Addr) (len cap : Nat) (fv : Value) (M : Nat) (a5 : Option Addr) (c5 : Nat) (F : List E) (cur : List Int) (wr : World) : Prop where
  net : Blk wr w.heap.size 24 #[.int .i64 n, .slice a len cap]
  own : wr.ownsRow (w.heap.size + 1) 3 1 fv len (ints cur)
  box : Blk wr M 24 #[.int .i64 n, .slice a5 F.length c5]
  row : wr.ownsRow w2.heap.size 50 3 (.slice a5 F.length c5) F.length (flat F)
  low : Below w.heap.size w wr
/-- The flow when so many ways have been gone. -/
def goN (es : List E) (cur : List Int) (ws : List WayE) (j : Nat) : List Int := (ws.take j).foldl (goW es) cur
theorem goN_succ (es : List E) (cur : List Int) (ws : List WayE) {j : Nat} (hj : j < ws.length) : goN es cur ws (j + 1) = goW es (goN es cur ws j) ws[j] := by
  unfold goN; rw [List.take_succ_eq_append_getElem hj, List.foldl_append]; rfl
theorem goN_all (es : List E) (cur : List Int) (ws : List WayE) {j : Nat} (hj : j = ws.length) : goN es cur ws j = ws.foldl (goW es) cur := by
  unfold goN; rw [List.take_of_length_le (by omega)]
theorem goN_good {n : Nat} {es : List E} {s t : Int} {order : List Int} {ways : List (List WayE)} (h : Gm.Form n es s t order ways) {i : Nat} (hil : i < order.length) (j : Nat) :
    GoodG n (opened es s (order.take (i + 1))) (goN es (fillK n es s t order ways i) (ways[i]?.getD []) j) s t ∧ ∀ w ∈ ways[i]?.getD [], isWayF n es s t (order[i]?.getD 0) w = true := by
  obtain ⟨hst, _⟩ := fill_stage h i (by omega)
  have hmem : order[i]?.getD 0 ∈ order.take (i + 1) := by
    rw [List.take_succ_eq_append_getElem hil, List.getElem?_eq_getElem hil]
    exact List.mem_append.2 (.inr (by simp))
  have hg := hst.good.opener h.net (L' := order.take (i + 1)) (fun x hx => by
    rw [List.take_succ_eq_append_getElem hil]
    exact List.mem_append.2 (.inl hx))
  have hw : ∀ w ∈ ways[i]?.getD [], isWayF n es s t (order[i]?.getD 0) w = true := fun w hw => by
    by_cases hiw : i < ways.length
    · exact h.ways i hiw w hw
    · rw [List.getElem?_eq_none (by omega)] at hw
      simp at hw
  exact ⟨(ways_good h.net hmem _ _ hg hst.back (fun w hw' => hw w (List.mem_of_mem_take hw'))).1, hw⟩
def QFillAt (w : World) (v : Int) (a : Option Addr) (len cap : Nat) (cur : List Int) (fv : Value) (wr : World) : Prop :=
  Blk wr w.heap.size 24 #[.int .i64 v, .slice a len cap] ∧ wr.ownsRow (w.heap.size + 1) 3 1 fv cur.length (ints cur) ∧ Below w.heap.size w wr

set_option maxRecDepth 100000 in
set_option maxHeartbeats 8000000 in
theorem qfill_any (v : Int) (a : Option Addr) (len cap : Nat) (es : List E) (s t : Int) (oa : Option Addr) (ol oc : Nat) (order : List Int) (wa : Option Addr) (wl wc : Nat) (wss : List (List WayE)) (w : World) (hE : NetAt w.heap.size w a len es) (hO : FlowAt w.heap.size w oa ol order) (hoc : ol ≤ oc) (hW : WayssAt w.heap.size w wa wl wss) :
    Calls Try.prog 11 #[netV v a len cap, .int .i64 s, .int .i64 t, .slice oa ol oc, .slice wa wl wc] w (FillPost (fillF v es s t order wss) w) := by
  obtain ⟨W0, hW0⟩ : ∃ W0, w.alloc (.cells #[.int .i64 v, .slice a len cap] 24) = W0 := ⟨_, rfl⟩
  have hB0 : Below w.heap.size w W0 := by rw [← hW0]; exact (Below.refl _ w).alloc (Nat.le_refl _) _
  have bN : Blk W0 w.heap.size 24 #[.int .i64 v, .slice a len cap] := by rw [← hW0]; exact Blk.new w _ _
  have HW0 := Lib.hid hW0
  have HlE := Lib.hid hE.1
  have HlO := Lib.hid hO.1
  have HlW := Lib.hid hW.1
  have HE := Lib.hid hE
  have HO := Lib.hid hO
  have HWW := Lib.hid hW
  have hz0 := hB0.size
  have HE0 := Lib.hid ((hE.below hB0).more hB0.size)
  have HO0 := Lib.hid ((hO.below hB0).more hB0.size)
  have HWW0 := Lib.hid ((hW.below hB0).more hB0.size)
  have hol := hO.2.1
  clear hW0 hE hO hW
  obtain ⟨i0, hi0, hy0, hy1, hy2⟩ := info_parts infoInt
  obtain ⟨g, hg⟩ : ∃ g, formF v es s t order wss = g := ⟨_, rfl⟩
  have HG := Lib.hid hg
  clear hg
  rcases g with _ | _
  · have HF : Hid (fillF v es s t order wss = ([], [], 50)) := Lib.hid (by unfold fillF; rw [HG.out]; simp)
    go_enter Try.func11, Try.ntmps11
    go_wp2_with (go_at_call 26; rw [HW0.out]; (with_reducible refine (qform_any _ _ _ _ es _ _ _ _ _ order _ _ _ wss _ HE0.out HO0.out HWW0.out).mono ?_); rw [HG.out]; rintro e w1 ⟨rfl, hb1⟩
                 have hB1 : Below w.heap.size w w1 := hB0.trans (hb1.mono hz0))
    refine bodyPost_ret (v := .tuple #[.slice none 0 0, .slice none 0 0, .int .i64 50]) (by simp [results, Try.results11, go_sem]) rfl ?_
    rw [HF.out]
    exact ⟨none, 0, 0, none, 0, 0, rfl, ⟨rfl, by omega, 0, 0, .inl rfl, fun i hi => by simp at hi⟩, ⟨rfl, by omega, 0, 0, .inl rfl, fun i hi => by simp at hi⟩, Nat.le_refl _, hB1⟩
  · have hv : 2 ≤ v ∧ v ≤ 64 ∧ es.length ≤ 256 := by
      have h := HG.out
      unfold formF at h
      simp only [Bool.and_eq_true] at h
      have := right_iff.1 h.1.1.1.1.1.1.1
      exact ⟨this.1, this.2.1, this.2.2.1⟩
    obtain ⟨n, rfl⟩ : ∃ n : Nat, v = n := ⟨v.toNat, by omega⟩
    have hF := formF_iff.1 HG.out
    have hlen : len ≤ 256 := by have := hv.2.2; rw [HlE.out] at this; exact this
    have HFF : Hid (fillF n es s t order wss = (fillK n es s t order wss order.length, order.map (fun x => fa (fillK n es s t order wss order.length) x.toNat), 0)) := Lib.hid (by unfold fillF; rw [HG.out]; simp)
    have hol2 : ol ≤ 256 := by have := form_len hF; rw [HlO.out] at this; omega
    have hwl2 : wl ≤ ol := by have := hF.len; rw [HlW.out, HlO.out] at this; exact this
    have HFM := Lib.hid hF
    have hmk := make_ints len (by omega)
    have hs0 := hF.s0
    have hs1 := hF.s1
    have ht0 := hF.t0
    have ht1 := hF.t1
    have hK0 : Hid (List.replicate len (0 : Int) = fillK n es s t order wss 0) := Lib.hid (by rw [← HlE.out]; rfl)
    have hn64 : n ≤ 64 := by have := hv.2.1; omega
    clear hF hv
    go_enter Try.func11, Try.ntmps11
    go_wp2_with (go_at_call 26; rw [HW0.out]; (with_reducible refine (qform_any _ _ _ _ es _ _ _ _ _ order _ _ _ wss _ HE0.out HO0.out HWW0.out).mono ?_); rw [HG.out]; rintro e w1 ⟨rfl, hb1⟩
                 have bN1 := bN.below hb1 bN.lt
                 have hB1 : Below w.heap.size w w1 := hB0.trans (hb1.mono hz0)
                 have hz1 := hB1.size
                 obtain ⟨lN1, n0, n1⟩ := bN1.two
                 clear hb1)
    clear bN hB0 hz0 hmk
    go_loopw [14, 15] (fun fv kv wr => ∃ k : Nat, k ≤ ol ∧ kv = .int .i64 k ∧ QFillAt w n a len cap (fillK n es s t order wss k) fv wr) (fun _ kv _ => ol - (intOf kv).toNat)
    case atStart =>
      refine ⟨0, Nat.zero_le _, rfl, bN1.alloc _, ?_, hB1.alloc hB1.size _⟩
      have h := own_rep w1 (w.heap.size + 1) len (by omega) (by omega)
      rw [hK0.out] at h
      have e : (fillK n es s t order wss 0).length = len := by rw [← hK0.out]; simp
      rw [e]; exact h
    case round =>
      clear bN1 hB1 hz1 lN1 n0 n1
      obtain ⟨k, hk, rfl, bN, hown, hB⟩ := hrel
      obtain ⟨w2, rfl⟩ : ∃ w', w' = wr := ⟨_, rfl⟩
      obtain ⟨lN, n0, n1⟩ := bN.two
      have hz2 := hB.size
      have hkI : (k : Int) ≤ (ol : Int) := by omega
      have hst := (fill_stage HFM.out k (by rw [HlO.out]; exact hk)).1
      have hcl : (fillK n es s t order wss k).length = len := by rw [fillK_len _ _ _ _ _ _ HFM.out (by rw [HlO.out]; exact hk), HlE.out]
      rw [hcl] at hown
      by_cases hlt : k < ol
      · obtain ⟨F, hF⟩ : ∃ F, opened es s (order.take (k + 1)) = F := ⟨_, rfl⟩
        have hFl : F.length = len := by rw [← hF, opened_length, HlE.out]
        have HFO := Lib.hid hF
        have HFl := Lib.hid hFl
        have hki : (k : Int) < (ol : Int) := by omega
        have hko : k + 1 ≤ ol := hlt
        have hkc : k + 1 ≤ oc := by omega
        obtain ⟨fA, fC, rfl⟩ := own_form hown
        have HE2 := Lib.hid ((HE.out.below hB).more hB.size)
        have HO2 := Lib.hid ((HO.out.below hB).more hB.size)
        have HWW2 := Lib.hid ((HWW.out.below hB).more hB.size)
        obtain ⟨cur, hcur⟩ : ∃ cur, fillK n es s t order wss k = cur := ⟨_, rfl⟩
        rw [hcur] at hst hown hcl
        have HCUR := Lib.hid hcur
        have HST := Lib.hid hst
        have HCL := Lib.hid hcl
        have HOWN := Lib.hid hown
        have HBB := Lib.hid hB
        have BN := Lib.hid bN
        clear hF hFl hcur hst hcl hown
        have hcells : ∀ W, Below w2.heap.size w2 W → W.cell? ⟨w.heap.size, 0, none⟩ = some (.int .i64 (n : Int)) ∧ W.cell? ⟨w.heap.size, 1, none⟩ = some (.slice a len cap) := fun W h => (BN.out.below h BN.out.lt).two.2
        have HCE := Lib.hid hcells
        clear hcells bN hB n0 n1
        go_upto_region 8 with fail
        go_cut [16] from 44 to 50 (fun s16 wx => OpPost n F w2 s16 wx)
        case first =>
          have hct := cut_to oa ol oc (k + 1) hkc
          have hct' : ∀ w, (Instr.slice 25 (.slice oa ol oc) none (some (.int .i64 ((k : Int) + 1))) none).run Try.prog w = .ok (.slice oa (k + 1) oc) w := fun w => by
            have := hct w
            rwa [show (((k + 1 : Nat) : Int)) = (k : Int) + 1 by omega] at this
          clear hct
          have hwk : IntKind.i64.wrap ((k : Int) + 1) = (k : Int) + 1 := IntWalk.i64_in _ (by omega)
          have hB := below_drew (Below.refl w2.heap.size w2)
          refine region_mix (fun W => Below w2.heap.size w2 W) (8) (.reads [0, 1, 2, 3, 4, 5] (.fork 6 (.only 7 (.only 8 (.stop))) 7 (.only 6 (.only 8 (.stop))))) (by kernel_rfl) (by kernel_rfl) (hB) ?_
          obtain ⟨wc, hwc⟩ : ∃ W, w2.drew = W := ⟨_, rfl⟩
          rw [hwc] at hB ⊢
          clear hwc
          repeat (
            refine plan_read rfl (fun K hK => ?_)
            first
              | (refine plan_neg ?_ ?_
                 focus (go_simp; done)
                 go_simp
                 refine hK _ ?_
                 clear hK K)
              | (apply plan_pos
                 focus (go_simp; done)
                 focus (
                   intro W hW
                   (first | obtain ⟨d0, d1⟩ := HCE.out W hW | skip)
                   go_simp
                   first
                     | done
                     | exact rfl)
                 go_simp
                 refine hK _ ?_
                 clear hK K))
          refine plan_fork rfl rfl (fun Q hQ => ?_) (fun Q hQ => ?_)
          · go_wp2_with (go_at_call 18; (with_reducible refine (qopen_any _ _ _ _ es _ _ _ _ (order.take (k + 1)) _ (net_on HE2.out hB) (flow_take (flow_on HO2.out hB) hko) (by omega) (by omega)).mono ?_); rintro e wd ⟨a6, cap6, rfl, _, h10, hb⟩; rw [HFO.out] at h10 ⊢; replace h10 := own_less h10 hB.size)
            replace hB := hB.trans (hb.mono hB.size)
            try replace h11 := h11.below hb h11.lt
            refine hQ _ _ (fun _ => hB) ?_
            clear hQ Q hb
            obtain ⟨wc, rfl⟩ : ∃ W, W = wd := ⟨_, rfl⟩
            refine plan_only rfl (fun Q hQ => ?_)
            go_wp2
            have h11 := Blk.new wc 24 #[.int .i64 0, .slice none 0 0]
            have hM := hB.size
            replace hB := hB.alloc hB.size (.cells #[.int .i64 0, .slice none 0 0] 24)
            try replace h10 := h10.alloc (.cells #[.int .i64 0, .slice none 0 0] 24)
            refine hQ _ _ (fun _ => hB) ?_
            clear hQ Q
            generalize wc.alloc (.cells #[.int .i64 0, .slice none 0 0] 24) = wd at *
            generalize wc.heap.size = M at *
            obtain ⟨wc, rfl⟩ : ∃ W, W = wd := ⟨_, rfl⟩
            refine plan_only rfl (fun Q hQ => ?_)
            obtain ⟨lM, y0, y1⟩ := h11.two
            have yf0 := h11.frozen 0
            have yf1 := h11.frozen 1
            go_wp2
            replace h10 := ownsRow_setCell_other h10 (a := ⟨M, 0, none⟩) (own_blk_ne h10 h11 (by decide)) (.int .i64 (n : Int))
            replace h11 := h11.set 0 (.int .i64 (n : Int))
            replace h10 := ownsRow_setCell_other h10 (a := ⟨M, 1, none⟩) (own_blk_ne h10 h11 (by decide)) (.slice a6 F.length cap6)
            replace h11 := h11.set 1 (.slice a6 F.length cap6)
            replace hB := (hB.setCell (p := ⟨M, 0, none⟩) hM (.int .i64 (n : Int))).setCell (p := ⟨M, 1, none⟩) hM (.slice a6 F.length cap6)
            refine hQ _ _ (fun h => absurd h (by omega)) ?_
            clear hQ Q y0 y1 yf0 yf1
            unfold Plan.wp
            go_wp2_with fail
            go_meet
            exact ⟨M, a6, cap6, rfl, hM, h11, h10, hB⟩
          · go_wp2
            have h11 := Blk.new wc 24 #[.int .i64 0, .slice none 0 0]
            have hM := hB.size
            replace hB := hB.alloc hB.size (.cells #[.int .i64 0, .slice none 0 0] 24)
            try replace h10 := h10.alloc (.cells #[.int .i64 0, .slice none 0 0] 24)
            refine hQ _ _ (fun _ => hB) ?_
            clear hQ Q
            generalize wc.alloc (.cells #[.int .i64 0, .slice none 0 0] 24) = wd at *
            generalize wc.heap.size = M at *
            obtain ⟨wc, rfl⟩ : ∃ W, W = wd := ⟨_, rfl⟩
            refine plan_only rfl (fun Q hQ => ?_)
            go_wp2_with (go_at_call 18; (with_reducible refine (qopen_any _ _ _ _ es _ _ _ _ (order.take (k + 1)) _ (net_on HE2.out hB) (flow_take (flow_on HO2.out hB) hko) (by omega) (by omega)).mono ?_); rintro e wd ⟨a6, cap6, rfl, _, h10, hb⟩; rw [HFO.out] at h10 ⊢; replace h10 := own_less h10 hB.size)
            replace hB := hB.trans (hb.mono hB.size)
            try replace h11 := h11.below hb h11.lt
            refine hQ _ _ (fun _ => hB) ?_
            clear hQ Q hb
            obtain ⟨wc, rfl⟩ : ∃ W, W = wd := ⟨_, rfl⟩
            refine plan_only rfl (fun Q hQ => ?_)
            obtain ⟨lM, y0, y1⟩ := h11.two
            have yf0 := h11.frozen 0
            have yf1 := h11.frozen 1
            go_wp2
            replace h10 := ownsRow_setCell_other h10 (a := ⟨M, 0, none⟩) (own_blk_ne h10 h11 (by decide)) (.int .i64 (n : Int))
            replace h11 := h11.set 0 (.int .i64 (n : Int))
            replace h10 := ownsRow_setCell_other h10 (a := ⟨M, 1, none⟩) (own_blk_ne h10 h11 (by decide)) (.slice a6 F.length cap6)
            replace h11 := h11.set 1 (.slice a6 F.length cap6)
            replace hB := (hB.setCell (p := ⟨M, 0, none⟩) hM (.int .i64 (n : Int))).setCell (p := ⟨M, 1, none⟩) hM (.slice a6 F.length cap6)
            refine hQ _ _ (fun h => absurd h (by omega)) ?_
            clear hQ Q y0 y1 yf0 yf1
            unfold Plan.wp
            go_wp2_with fail
            go_meet
            exact ⟨M, a6, cap6, rfl, hM, h11, h10, hB⟩
        case rest =>
          obtain ⟨M, a5, c5, rfl, hM, bM, hR, hb⟩ := hcut
          obtain ⟨w3, rfl⟩ : ∃ w', w' = wc := ⟨_, rfl⟩
          have hB3 := HBB.out.trans (hb.mono hz2)
          have HI3 : Hid (InAt w w2 n a len cap (.slice fA len fC) M a5 c5 F cur w3) := Lib.hid ⟨BN.out.below hb BN.out.lt, own_below HOWN.out hb, bM, hR, hB3⟩
          have HB3 := Lib.hid hB3
          have hM2 : w.heap.size + 1 ≤ M := by have := BN.out.lt; omega
          obtain ⟨mine, hmine⟩ : ∃ m, wss[k]?.getD [] = m := ⟨_, rfl⟩
          have HMINE := Lib.hid hmine
          have hz3 := hB3.size
          clear hmine bM hR hb hB3 HCE
          go_upto_if 54 with fail
          go_cut [17] from 54 to 58 (fun s17 wx => ∃ ma ml mc, s17 = .slice ma ml mc ∧ WaysAt w.heap.size w ma ml mine ∧ w3 = wx)
          case first =>
            by_cases hkw : k < wl
            · have hkI2 : (k : Int) < (wl : Int) := by omega
              have hkk2 : k < wss.length := by rw [HlW.out]; exact hkw
              obtain ⟨hwl, wb, wo, hwa, hwc⟩ := HWW.out
              obtain ⟨hwb, ma, ml, mc, cw, hmw⟩ := hwc k hkk2
              obtain rfl : wa = some ⟨wb, wo, none⟩ := by
                rcases hwa with h | h
                · omega
                · exact h
              have cw3 : w3.cell? ⟨wb, wo + k, none⟩ = some (.slice ma ml mc) := (HB3.out.cell (p := ⟨wb, wo + k, none⟩) hwb).trans cw
              have hwb3 : wb < w3.heap.size := by omega
              have HMW : Hid (WaysAt w.heap.size w ma ml mine) := Lib.hid (by
                rw [← HMINE.out, List.getElem?_eq_getElem hkk2]; exact hmw)
              clear hwa hwc hmw cw hkk2 hwl
              go_wp2
              go_meet
              first | exact ⟨ma, ml, mc, rfl, HMW.out, rfl⟩ | exact ⟨ma, ml, mc, rfl, HMW.out, trivial⟩ | exact ⟨ma, ml, mc, rfl, HMW.out⟩
            · have hkI2 : ¬ (k : Int) < (wl : Int) := by omega
              have HMW : Hid (WaysAt w.heap.size w none 0 mine) := Lib.hid (by
                rw [← HMINE.out, List.getElem?_eq_none (by rw [HlW.out]; omega)]; exact ⟨rfl, by omega, 0, 0, .inl rfl, fun i hi => by simp at hi⟩)
              go_wp2
              go_meet
              first | exact ⟨none, 0, 0, rfl, HMW.out, rfl⟩ | exact ⟨none, 0, 0, rfl, HMW.out, trivial⟩ | exact ⟨none, 0, 0, rfl, HMW.out⟩
          case rest =>
            obtain ⟨ma, ml, mc, rfl, hmw, rfl⟩ := hcut
            have HMW := Lib.hid hmw
            have hml := hmw.1
            have hmx := hmw.2.1
            have HML := Lib.hid hml
            clear hmw hml
            go_wp2
            go_loopw [18] (fun jv wr => ∃ j : Nat, j ≤ ml ∧ jv = .int .i64 j ∧ InAt w w2 n a len cap (.slice fA len fC) M a5 c5 F (goN es cur mine j) wr) (fun jv _ => ml - (intOf jv).toNat)
            case atStart => exact ⟨0, Nat.zero_le _, rfl, HI3.out⟩
            case round =>
              clear HI3 HB3 hz3
              obtain ⟨j, hj, rfl, hI⟩ := hrel
              obtain ⟨w4, rfl⟩ : ∃ w', w' = wr := ⟨_, rfl⟩
              have HI := Lib.hid hI
              obtain ⟨lN, n0, n1⟩ := hI.net.two
              obtain ⟨lM, m0, m1⟩ := hI.box.two
              have hz4 := hI.low.size
              clear hI
              by_cases hjl : j < ml
              · have hjm : j < mine.length := by rw [HML.out]; exact hjl
                obtain ⟨hgd, hway⟩ := goN_good HFM.out (i := k) (by rw [HlO.out]; exact hlt) j
                rw [HCUR.out, HMINE.out] at hgd
                rw [HMINE.out] at hway
                have hwj := hway mine[j] (List.getElem_mem hjm)
                have hsu := goN_succ es cur mine hjm
                obtain ⟨_, _, mb, mo, hma, hmc⟩ := HMW.out
                obtain ⟨hmb, ea, el, ec, e0, hf, e1⟩ := hmc j hjm
                obtain rfl : ma = some ⟨mb, mo, none⟩ := by
                  rcases hma with h | h
                  · omega
                  · exact h
                obtain ⟨p, hp⟩ : ∃ p, mine[j] = p := ⟨_, rfl⟩
                rw [hp] at hwj hsu hf e1
                obtain ⟨W, cnt⟩ := p
                dsimp only at hf e1
                simp only [isWayF, Bool.and_eq_true, decide_eq_true_eq] at hwj
                obtain ⟨⟨⟨⟨⟨q1, q2⟩, q3⟩, q4⟩, q5⟩, q6⟩ := hwj
                obtain ⟨wk1, wk2, _, _, _⟩ := walkW_is (right_iff.1 HFM.out.net).2.2.2 W s (Gm.start n s) (by simp [Gm.start]) q6
                have hwhole := hgd.whole HFM.out.net
                obtain ⟨C, hC⟩ : ∃ C, goN es cur mine j = C := ⟨_, rfl⟩
                rw [hC] at hsu HI hwhole
                have hCl : C.length = len := by rw [hwhole.len, HlE.out]
                have hlw : (legsW W).length = el := by simp [legsW, hf.1]
                have HWHO := Lib.hid hwhole
                have HSU := Lib.hid hsu
                have HWK1 := Lib.hid wk1
                have HWK2 : Hid (((legsW W).map (·.1)).Nodup) := Lib.hid (by rw [legsW_map]; exact wk2)
                have HCLc := Lib.hid hCl
                have HLW := Lib.hid hlw
                have HFW := Lib.hid hf
                have HWL := Lib.hid hf.1
                have HE0' := Lib.hid e0
                have hel : el ≤ n := by rw [← hf.1]; exact q2
                have ce0 : w4.cell? ⟨mb, mo + j * 2, none⟩ = some (.slice ea el ec) := (HI.out.low.cell (p := ⟨mb, mo + j * 2, none⟩) hmb).trans e0
                have ce1 : w4.cell? ⟨mb, mo + j * 2 + 1, none⟩ = some (.int .i64 cnt) := (HI.out.low.cell (p := ⟨mb, mo + j * 2 + 1, none⟩) hmb).trans e1
                have hmb4 : mb < w4.heap.size := by omega
                have hji : (j : Int) < (ml : Int) := by omega
                have HES : Hid (es.length = len) := Lib.hid HlE.out
                clear hgd hway hma hmc e0 e1 hf hp q1 q2 q3 q6 wk1 wk2 hwhole hC hCl hlw hjm hsu
                go_wp2
                go_loopw [19, 20] (fun rv kv wr => ∃ q : Nat, q ≤ el ∧ kv = .int .i64 q ∧ rv = .int .i64 (roomOf es C ((legsW W).take q) cnt) ∧ Below w4.heap.size w4 wr) (fun _ kv _ => el - (intOf kv).toNat)
                case atStart => exact ⟨0, Nat.zero_le _, rfl, rfl, Below.refl _ _⟩
                case round =>
                  clear n0 n1 m0 m1 ce1
                  obtain ⟨q, hq, rfl, rfl, hb⟩ := hrel
                  obtain ⟨w5, rfl⟩ : ∃ w', w' = wr := ⟨_, rfl⟩
                  have c50 : w5.cell? ⟨mb, mo + j * 2, none⟩ = some (.slice ea el ec) := (hb.cell (p := ⟨mb, mo + j * 2, none⟩) hmb4).trans ce0
                  have hz5 := hb.size
                  have bN5 := HI.out.net.below hb HI.out.net.lt
                  obtain ⟨lN5, n50, n51⟩ := bN5.two
                  have hmb5 : mb < w5.heap.size := by omega
                  have hB5 := HI.out.low.trans (hb.mono hz4)
                  clear ce0
                  by_cases hqe : q < el
                  · have hqW : q < W.length := by rw [HWL.out]; exact hqe
                    obtain ⟨eb, eo, hea, hec⟩ := (HFW.out.below hB5).2.2.int
                    obtain ⟨heb, cx⟩ := hec q hqW
                    obtain rfl : ea = some ⟨eb, eo, none⟩ := by
                      rcases hea with h | h
                      · omega
                      · exact h
                    have hi3 := HWK1.out W[q] (List.getElem_mem hqW)
                    have hgq : W[q]?.getD 0 = W[q] := by rw [List.getElem?_eq_getElem hqW]; rfl
                    have hlq : (legsW W)[q]'(by rw [HLW.out]; exact hqe) = (W[q].toNat, true) := by simp [legsW]
                    have hst := room_take (es := es) (fl := C) (d := cnt) (k := q) (l := legsW W) (by rw [HLW.out]; exact hqe)
                    rw [hlq] at hst
                    obtain ⟨m, hm⟩ : ∃ m : Nat, W[q] = m := ⟨W[q].toNat, by omega⟩
                    rw [hgq, hm] at cx
                    rw [hm] at hi3 hst
                    simp only [Int.toNat_natCast] at hi3 hst
                    have hml : m < es.length := by omega
                    obtain ⟨b, off, ha, hc⟩ := (HE.out.below hB5).2.2
                    obtain ⟨hbb, c0, c1, c2⟩ := hc m hml
                    obtain rfl : a = some ⟨b, off, none⟩ := by
                      rcases ha with h | h
                      · omega
                      · exact h
                    have hed : ed es m = es[m] := by unfold ed; rw [List.getElem?_eq_getElem hml]; rfl
                    rw [← hed] at c2
                    have hown5 := own_below HI.out.own hb
                    obtain ⟨gf, hgf, hgf0, hgf1, cf⟩ := own_int (by rw [HCLc.out]; exact hown5) (show m < C.length by rw [HCLc.out, ← HES.out]; exact hml)
                    subst hgf
                    have cf' : w5.cell? ⟨gf, m, none⟩ = some (.int .i64 (Gm.fa C m)) := cf
                    have hat := HWHO.out.at hml
                    have hok := okE_iff.1 ((right_iff.1 HFM.out.net).2.2.2 _ (ed_mem hml))
                    have hrle := (roomOf_le es C ((legsW W).take q) cnt).1
                    unfold spare at hst
                    obtain ⟨f, hff⟩ : ∃ f, Gm.fa C m = f := ⟨_, rfl⟩
                    obtain ⟨x, hx⟩ : ∃ x, (ed es m).2.2 = x := ⟨_, rfl⟩
                    obtain ⟨R, hRR⟩ : ∃ R, roomOf es C ((legsW W).take q) cnt = R := ⟨_, rfl⟩
                    simp only [hff, hx, hRR] at cf' hst hat hok c2 hrle ⊢
                    have hx1 : x ≤ 1000 := hok.2.2.2.2.2.2
                    obtain ⟨hf0, hf1⟩ := hat
                    have hmlen : m < len := by rw [← HES.out]; exact hml
                    have hmi : (m : Int) < (len : Int) := by omega
                    have hqi : (q : Int) < (el : Int) := by omega
                    have hbb5 : b < w5.heap.size := by omega
                    have heb5 : eb < w5.heap.size := by omega
                    have HST2 : Hid (roomOf es C ((legsW W).take (q + 1)) cnt = if x - f < R then x - f else R) := Lib.hid (by rw [hst, min_if]; simp)
                    have hwr : IntKind.i64.wrap (x - f) = x - f := IntWalk.i64_in _ (by omega)
                    clear hst hi3 hgq hlq hm hea hec ha hc c0 c1 hed cf hok hff hx hRR hml hown5 hqW
                    go_wp2
                    go_quiet (fail)
                    clear hwr
                    go_wp2
                    go_roundw
                    case rel => exact ⟨q + 1, by omega, by go_num, by rw [HST2.out], below_drewN hb _⟩
                    case measure => simp [intOf]; omega
                  · obtain rfl : q = el := by omega
                    obtain ⟨r, hr⟩ : ∃ r, roomOf es C (legsW W) cnt = r := ⟨_, rfl⟩
                    have HTK : Hid ((legsW W).take q = legsW W) := Lib.hid (List.take_of_length_le (by rw [HLW.out]; exact Nat.le_refl _))
                    have hr1 := roomOf_le es C (legsW W) cnt
                    have hr0 : 0 ≤ r := by
                      rw [← hr]
                      refine roomW_ge es C _ cnt 0 q4 (fun p hp => ?_)
                      obtain ⟨i, hi, rfl⟩ := List.mem_map.1 (show p ∈ W.map (fun i => (i.toNat, true)) from hp)
                      have h3 := HWK1.out i hi
                      have := HWHO.out.at (i := i.toNat) (by omega)
                      unfold spare
                      simp only [if_true]
                      omega
                    have HRM := Lib.hid hr
                    have hgo : goW es C (W, cnt) = puts C (legsW W) r := by unfold goW; dsimp only; rw [hr]
                    have HGO := Lib.hid hgo
                    have hrc : r ≤ 1000 := by have := hr1.1; rw [hr] at this; omega
                    have HI5 : Hid (InAt w w2 n a len cap (.slice fA len fC) M a5 c5 F C w5) := Lib.hid ⟨bN5, own_below HI.out.own hb, HI.out.box.below hb HI.out.box.lt, own_below HI.out.row hb, hB5⟩
                    rw [HTK.out, hr]
                    clear hr hgo hr1 bN5 lN5 n50 n51 hmb5 hz5 hqe
                    go_wp2
                    go_loopw [22] (fun kv wr => ∃ y : Nat, y ≤ q ∧ kv = .int .i64 y ∧ InAt w w2 n a len cap (.slice fA len fC) M a5 c5 F (puts C ((legsW W).take y) r) wr) (fun kv _ => q - (intOf kv).toNat)
                    case atStart => exact ⟨0, Nat.zero_le _, rfl, HI5.out⟩
                    case round =>
                      clear HI5 HI c50 hB5 hb
                      obtain ⟨y, hy, rfl, hI⟩ := hrel
                      obtain ⟨w6, rfl⟩ : ∃ w', w' = wr := ⟨_, rfl⟩
                      have c60 : w6.cell? ⟨mb, mo + j * 2, none⟩ = some (.slice ea q ec) := (hI.low.cell (p := ⟨mb, mo + j * 2, none⟩) hmb).trans HE0'.out
                      have hz6 := hI.low.size
                      have hmb6 : mb < w6.heap.size := by omega
                      have HI6 := Lib.hid hI
                      clear hI
                      by_cases hye : y < q
                      · have hyW : y < W.length := by rw [HWL.out]; exact hye
                        obtain ⟨eb, eo, hea, hec⟩ := (HFW.out.below HI6.out.low).2.2.int
                        obtain ⟨heb, cx⟩ := hec y hyW
                        obtain rfl : ea = some ⟨eb, eo, none⟩ := by
                          rcases hea with h | h
                          · omega
                          · exact h
                        have hi3 := HWK1.out W[y] (List.getElem_mem hyW)
                        have hgq : W[y]?.getD 0 = W[y] := by rw [List.getElem?_eq_getElem hyW]; rfl
                        have hyl : y < (legsW W).length := by rw [HLW.out]; exact hye
                        have hlq : (legsW W)[y]'hyl = (W[y].toNat, true) := by simp [legsW]
                        have hst := puts_take (fl := C) (d := r) (k := y) (l := legsW W) hyl
                        rw [hlq] at hst
                        unfold put at hst
                        obtain ⟨m, hm⟩ : ∃ m : Nat, W[y] = m := ⟨W[y].toNat, by omega⟩
                        rw [hgq, hm] at cx
                        rw [hm] at hi3 hst hlq
                        simp only [Int.toNat_natCast] at hi3 hst hlq
                        have hml : m < es.length := by omega
                        have hpl : (puts C ((legsW W).take y) r).length = len := by rw [puts_length, HCLc.out]
                        have hold : Gm.fa (puts C ((legsW W).take y) r) m = Gm.fa C m := (puts_at r ((legsW W).take y) C m (fun p hp => by
                          obtain ⟨i, hi, rfl⟩ := List.mem_map.1 (show p ∈ W.map (fun i => (i.toNat, true)) from List.mem_of_mem_take hp)
                          have h3 := HWK1.out i hi
                          rw [HCLc.out, ← HES.out]; dsimp only; omega) (by rw [List.map_take]; exact HWK2.out.sublist (List.take_sublist _ _))).2 (by
                            have h := nodup_take HWK2.out (k := y) (by simpa using hyl)
                            rw [List.map_take]
                            simpa [hlq] using h)
                        have hat := HWHO.out.at hml
                        have hok := okE_iff.1 ((right_iff.1 HFM.out.net).2.2.2 _ (ed_mem hml))
                        have hown6 := HI6.out.own
                        obtain ⟨D, hD⟩ : ∃ D, puts C ((legsW W).take y) r = D := ⟨_, rfl⟩
                        rw [hD] at hst hpl hold hown6
                        obtain ⟨gf, hgf, hgf0, hgf1, cf⟩ := own_int (by rw [hpl]; exact hown6) (show m < D.length by rw [hpl, ← HES.out]; exact hml)
                        subst hgf
                        have cf' : w6.cell? ⟨gf, m, none⟩ = some (.int .i64 (Gm.fa D m)) := cf
                        have hfz := hown6.frozenAt m
                        rw [hold] at hst cf'
                        obtain ⟨f, hff⟩ : ∃ f, Gm.fa C m = f := ⟨_, rfl⟩
                        rw [hff] at hst cf' hat
                        have hx1 : (ed es m).2.2 ≤ 1000 := hok.2.2.2.2.2.2
                        obtain ⟨hf0, hf1⟩ := hat
                        have hf2 : f ≤ 1000 := by omega
                        have hmlen : m < len := by rw [← HES.out]; exact hml
                        have hmi : (m : Int) < (len : Int) := by omega
                        have hyi : (y : Int) < (q : Int) := by omega
                        have heb6 : eb < w6.heap.size := by omega
                        have HPL := Lib.hid hpl
                        have HST2 : Hid (puts C ((legsW W).take (y + 1)) r = D.set m (f + r)) := Lib.hid (by rw [hst]; simp [sgn])
                        have HOWN6 := Lib.hid hown6
                        have hwr : IntKind.i64.wrap (f + r) = f + r := IntWalk.i64_in _ (by omega)
                        clear hst hi3 hgq hlq hm hea hec cf hok hff hml hown6 hyW hyl hold hD hpl hf1 hx1
                        go_wp2
                        clear hwr
                        go_roundw
                        case rel =>
                          refine ⟨y + 1, by omega, by go_num, HI6.out.net.far (p := ⟨gf, m, none⟩) (by simp; omega) _, ?_, HI6.out.box.far (p := ⟨gf, m, none⟩) (fun e => own_blk_ne HOWN6.out HI6.out.box (by decide) (by rw [show gf = M from (show M = gf by simpa using e).symm]; rfl)) _, ownsRow_setCell_other HI6.out.row (a := ⟨gf, m, none⟩) (fun e => own_ne HI6.out.row HOWN6.out (by decide) _ e (by simp [Value.ownBlock])) _, HI6.out.low.setCell (p := ⟨gf, m, none⟩) (by simp; omega) _⟩
                          have h := (HOWN6.out.stored m (.int .i64 (f + r))).1
                          rw [HST2.out, show ints (D.set m (f + r)) = (ints D).set m (.int .i64 (f + r)) by simp [List.map_set]]
                          exact h
                        case measure => simp [intOf]; omega
                      · obtain rfl : y = q := by omega
                        have HEND : Hid (goN es cur mine (j + 1) = puts C ((legsW W).take y) r) := Lib.hid (by rw [HSU.out, HGO.out, HTK.out])
                        go_wp2
                        go_roundw
                        case rel => exact ⟨j + 1, by omega, by go_num, by rw [HEND.out]; exact HI6.out⟩
                        case measure => simp [intOf]; omega
              · obtain rfl : j = ml := by omega
                have hgd := (goN_good HFM.out (i := k) (by rw [HlO.out]; exact hlt) j).1
                rw [HCUR.out, HMINE.out, HFO.out] at hgd
                have HRES : Hid (pushF n F (goN es cur mine j) s t 1073741824 = (fillK n es s t order wss (k + 1), (pushed n F s t 1073741824 (goN es cur mine j, 0)).2, 0)) := Lib.hid (by
                  unfold pushF
                  rw [goodG_iff.2 hgd]
                  have e : fillK n es s t order wss (k + 1) = (pushed n F s t 1073741824 (goN es cur mine j, 0)).1 := by
                    show stageF n es s t (order.take (k + 1)) (wss[k]?.getD []) (fillK n es s t order wss k) = _
                    unfold stageF
                    rw [HCUR.out, HMINE.out, HFO.out, goN_all es cur mine HML.out.symm]
                  rw [e]; simp)
                have hgl : (goN es cur mine j).length = len := by rw [hgd.len, HFl.out]
                obtain ⟨C, hC⟩ : ∃ C, goN es cur mine j = C := ⟨_, rfl⟩
                rw [hC] at HRES HI hgl
                have HN5 := Lib.hid (edges_own HI.out.row (by rw [HFl.out]; omega)).2
                have HF5 := Lib.hid (ints_own (by rw [hgl]; exact HI.out.own) (by omega)).2
                clear hgd hC hgl
                go_wp2_with (go_at_call 27; (with_reducible refine (qpush_own _ _ _ _ F _ _ _ C s t 1073741824 _ HN5.out HF5.out (by simp [I64])).mono ?_); rw [HRES.out]; rintro e w5 ⟨pa, pl, pc, he, _, hO5, hb5⟩
                             dsimp only at he hO5
                             subst he)
                go_roundw
                case rel =>
                  exact ⟨k + 1, by omega, by go_num, HI.out.net.below hb5 lN, own_less hO5 (by have := HI.out.net.lt; omega), HI.out.low.trans (hb5.mono hz4)⟩
                case measure => simp [intOf]; omega
      · obtain rfl : k = ol := by omega
        obtain ⟨F, hF⟩ : ∃ F, fillK n es s t order wss k = F := ⟨_, rfl⟩
        rw [hF] at hown hcl
        have HF : Hid (fillF n es s t order wss = (F, gotF F order, 0)) := Lib.hid (by rw [HFF.out, HlO.out, hF]; rfl)
        obtain ⟨fA, fC, rfl⟩ := own_form hown
        have hFL : FlowAt w2.heap.size w2 fA len F := (ints_own (by rw [hcl]; exact hown) (by omega)).2
        have HFL := Lib.hid hFL
        have HO2 := Lib.hid ((HO.out.below hB).more hB.size)
        have hB2 := Below.refl w2.heap.size w2
        have HB := Lib.hid hB
        have HSR : Hid (∀ x ∈ order, isSrc es s x = true) := Lib.hid HFM.out.src
        clear hst hlt hown hF hcl hFL hB bN lN n0 n1
        go_wp2
        go_loopw [24, 25] (fun gv kv wr => ∃ j : Nat, j ≤ k ∧ kv = .int .i64 j ∧ wr.ownsRow w2.heap.size 3 1 gv j (ints (gotF F (order.take j))) ∧ Below w2.heap.size w2 wr) (fun _ kv _ => k - (intOf kv).toNat)
        case atStart => exact ⟨0, Nat.zero_le _, rfl, World.ownsRow_nil _ _ _ _, hB2⟩
        case round =>
          clear hB2
          obtain ⟨j, hj, rfl, hG, hB⟩ := hrel
          obtain ⟨w3, rfl⟩ : ∃ w', w' = wr := ⟨_, rfl⟩
          obtain ⟨ga, gc, rfl⟩ := own_form hG
          have hz3 := hB.size
          by_cases hlj : j < k
          · have hjo : j < order.length := by rw [HlO.out]; exact hlj
            have hsn := gotF_snoc F order hjo
            have hsr := isSrc_iff.1 (HSR.out _ (List.getElem_mem hjo))
            obtain ⟨ob, oo, hoa, hoc2⟩ := (HO2.out.below hB).2.2.int
            obtain ⟨hob, co⟩ := hoc2 j hjo
            obtain rfl : oa = some ⟨ob, oo, none⟩ := by
              rcases hoa with h | h
              · omega
              · exact h
            obtain ⟨x, hx⟩ : ∃ x, order[j]?.getD 0 = x := ⟨_, rfl⟩
            have hxx : order[j] = x := by rw [← hx, List.getElem?_eq_getElem hjo]; rfl
            rw [hxx] at hsr
            rw [hx] at co hsn
            obtain ⟨fb, fo, hfa, hfc⟩ := (HFL.out.below hB).2.2.int
            have hxl : x.toNat < F.length := by rw [HFL.out.1, ← HlE.out]; omega
            obtain ⟨hfb, cf⟩ := hfc x.toNat hxl
            obtain rfl : fA = some ⟨fb, fo, none⟩ := by
              rcases hfa with h | h
              · omega
              · exact h
            have hxlen : x < (len : Int) := by have := hsr.2.1; rw [HlE.out] at this; exact this
            have hx0 := hsr.1
            obtain ⟨y, hy⟩ : ∃ y, fa F x.toNat = y := ⟨_, rfl⟩
            have hy' : F[x.toNat]?.getD 0 = y := hy
            rw [hy'] at cf
            rw [hy] at hsn
            have HSN := Lib.hid hsn
            have hji : (j : Int) < (k : Int) := by omega
            have hob3 : ob < w3.heap.size := by omega
            have hfb3 : fb < w3.heap.size := by omega
            have hGT := hG.alloc (.cells #[.int .i64 y] 3)
            clear hsn hsr hoa hoc2 hx hxx hfa hfc hxl hy hy' hjo
            go_wp2_with (
              at_builtin
              refine wpList_append_lies _ (by rfl) (.tmp 143) (.tmp 151) 25 (by rfl) w2.heap.size 3 i0 _ 1 8 Try.underlying25 hi0 hy0 hy1 hy2 rfl (by decide) _ j (ints (gotF F (order.take j))) (by rfl) hGT ⟨w3.heap.size, 0, none⟩ 1 1 [.int .i64 y] (by rfl) (by rfl) (cell_one_new _ _ _) (by simp [Value.oneCell']) (by omega) (by simp [maxLen]; omega) (by omega) (by simp; omega) (w3.heap.size + 1) (by simp) ?_
              intro g2 cap2' w4 hoT4 hg4 hloc4 hlt4)
            go_roundw
            case rel =>
              refine ⟨j + 1, by omega, by go_num, ?_, (hB.alloc hB.size _).grown hg4 (by have := hB.size; simp; omega) (fun i e => (hGT.lt i e).1)⟩
              rw [HSN.out, show ints (gotF F (order.take j) ++ [y]) = ints (gotF F (order.take j)) ++ [.int .i64 y] by simp]; exact hoT4
            case measure => simp [intOf]; omega
          · obtain rfl : j = k := by omega
            have hGo := hG
            rw [show order.take j = order by rw [List.take_of_length_le (by rw [HlO.out]; exact Nat.le_refl _)]] at hGo
            have hgl : (gotF F order).length = j := by rw [gotF_len, HlO.out]
            have hGF := (ints_own (by rw [hgl]; exact hGo) (by omega)).2
            go_wp2
            refine bodyPost_ret (v := .tuple #[.slice fA len fC, .slice ga j gc, .int .i64 0]) (by simp [results, Try.results11, go_sem]) rfl ?_
            rw [HF.out]
            exact ⟨fA, len, fC, ga, j, gc, rfl, flow_on HFL.out hB, hGF, own_cap hG, HB.out.trans (hB.mono hz2)⟩
end Go.Proofs.Ythchlfoebkachaa
