/-
  The statement CellPlays is proved for whatever messages, numbers and raw grants: a cell answers every script as the document's own cell does; what is handed in stays. No condition.
-/
import Derived.Deep.DeepCutAuto
import Derived.Test.YtbbogkmibiealaaCcalls
import Derived.Test.YtbbogkmibiealaaCfour
import Derived.Test.YtbbogkmibiealaaOpen18
import Derived.Test.YtbbogkmibiealaaRows
namespace Go.Proofs.Ytbbogkmibiealaa.lawCPlays
open Go.ChangeShapes Go.WideShapes Go.ChangeAt Go.RowKit Gm

set_option maxRecDepth 100000 in
set_option maxHeartbeats 8000000 in
theorem walk (nn boot : Int) (a : Option Addr) (len cap : Nat) (za : List Ms) (a2 : Option Addr) (len2 cap2 : Nat) (z : List GrE) (now : Int) (w : World) (hnn : I64 nn) (hbt : I64 boot) (h0 : MsgsAt w.heap.size w a len za) (h1 : GrantsAt w.heap.size w a2 len2 z) (hnow : I64 now) :
    Calls Try.prog 3 #[.int .i64 nn, .int .i64 boot, .slice a len cap, .slice a2 len2 cap2, .int .i64 now] w fun e w' => e = .returned (.bool true) ∧ Below w.heap.size w w' := by
  have HA := Lib.hid h0
  have HZ := Lib.hid h1
  have i0 : I64 0 := by unfold I64; omega
  have i1 : I64 1 := by unfold I64; omega
  have I0 := Lib.hid i0
  have I1 := Lib.hid i1
  have INN := Lib.hid hnn
  have IBT := Lib.hid hbt
  have NOW := Lib.hid hnow
  have hlen : len ≤ 140737488351232 := h0.2.1
  have hlen2 : len2 ≤ 140737488351232 := h1.2.1
  have H0 := Lib.hid (Held.start (X := Ce) (Y := Ce) w (newC 0 0) (newC 0 0))
  have HOE0 : Hid (OkC (newC 0 1)) := Lib.hid (OkC.new 0 1 i0 i1)
  have HOD0 : Hid (OkC (newC nn boot)) := Lib.hid (OkC.new nn boot hnn hbt)
  obtain ⟨E0, hE0⟩ : ∃ E, newC 0 1 = E := ⟨_, rfl⟩
  obtain ⟨D0, hD0⟩ : ∃ E, newC nn boot = E := ⟨_, rfl⟩
  have HE0 := Lib.hid hE0
  have HD0 := Lib.hid hD0
  rw [hE0] at HOE0
  rw [hD0] at HOD0
  clear h0 h1 i0 i1 hnn hbt hnow hE0 hD0
  go_enter Try.func3, Try.ntmps3
  go_upto_region 2 with (go_at_call 8; with_reducible refine (awake_any w).mono ?_; rintro e w1 ⟨rfl, hb1⟩; have H1 := Lib.hid (H0.out.below nobody_law nobody_law hb1); clear hb1)
  go_upto_region 3 with (go_at_call 9; refine (H1.out.pNew1 nobody_law nn boot INN.out IBT.out).mono ?_; rintro e w2 ⟨p, rfl, h2⟩; rw [HD0.out] at h2; have H2 := Lib.hid h2; clear h2)
  go_upto_region 4 with (go_at_call 10; refine (H2.out.qNew2 pcell_law nn boot).mono ?_; rintro e w3 ⟨q, rfl, h3⟩; rw [HD0.out] at h3; have H3 := Lib.hid h3; clear h3)
  go_upto_region 5 with (go_at_call 9; refine (four_new1 qcell_law H3.out 0 1 I0.out I1.out).mono ?_; rintro e w4 ⟨c, rfl, h4⟩; rw [HE0.out] at h4; have H4 := Lib.hid h4; clear h4)
  go_upto_region 6 with (go_at_call 10; refine (four_new2 kp_law H4.out 0 1).mono ?_; rintro e w5 ⟨d, rfl, h5⟩; rw [HE0.out] at h5; have H5 : Hid (M4 w w5 p D0 c E0 q D0 d E0 []) := Lib.hid h5; clear h5)
  clear H0 H1 H2 H3 H4 HE0 HD0
  by_cases h100 : 100 < len
  · have f1 : (100 : Int) < (len : Int) := by omega
    go_wp2
    go_ret
    exact ⟨rfl, H5.out.to⟩
  have f1 : ¬ (100 : Int) < (len : Int) := by omega
  go_wp2
  go_loopw [16] (fun iv wr => ∃ i D bs, i ≤ len ∧ OkC D ∧ iv = .int .i64 ((i : Nat) : Int) ∧ M4 w wr p D c E0 q D d E0 bs) (fun iv _ => 101 - (intOf iv).toNat)
  case atStart => exact ⟨0, D0, [], Nat.zero_le _, HOD0.out, rfl, H5.out⟩
  case round =>
    obtain ⟨i, D, bs, hi, hok, rfl, hh⟩ := hrel
    clear H5
    have HH := Lib.hid hh
    have HOD := Lib.hid hok
    clear hh hok HOD0
    by_cases hlt : i < len
    · have hii : (i : Int) < (len : Int) := by omega
      have hi0 : (0 : Int) ≤ (i : Int) := by omega
      obtain ⟨b, off, rfl, hb, hil, hx, c0, c1, c2, c3, c4, c5, ka, kl, kc, c6, hk⟩ := HA.out.get hlt
      have hbw : b < wr.heap.size := Nat.lt_of_lt_of_le hb HH.out.to.size
      obtain ⟨⟨k, cc, bb, e, v, u, l⟩, hm⟩ : ∃ m, za[i] = m := ⟨_, rfl⟩
      rw [hm] at hx c0 c1 c2 c3 c4 c5 hk
      dsimp only at hx c0 c1 c2 c3 c4 c5 hk
      have HC0 := Lib.hid c0
      have HC1 := Lib.hid c1
      have HC2 := Lib.hid c2
      have HC3 := Lib.hid c3
      have HC4 := Lib.hid c4
      have HC5 := Lib.hid c5
      have HC6 := Lib.hid c6
      have HB := Lib.hid hb
      have HK := Lib.hid hk
      have hll : l.length = kl := hk.1
      have q0 := (HH.out.to.cell (p := ⟨b, off + i * 7, none⟩) hb).trans HC0.out
      have q1 := (HH.out.to.cell (p := ⟨b, off + i * 7 + 1, none⟩) hb).trans HC1.out
      have q2 := (HH.out.to.cell (p := ⟨b, off + i * 7 + 2, none⟩) hb).trans HC2.out
      have q3 := (HH.out.to.cell (p := ⟨b, off + i * 7 + 3, none⟩) hb).trans HC3.out
      have q4 := (HH.out.to.cell (p := ⟨b, off + i * 7 + 4, none⟩) hb).trans HC4.out
      have q5 := (HH.out.to.cell (p := ⟨b, off + i * 7 + 5, none⟩) hb).trans HC5.out
      have q6 := (HH.out.to.cell (p := ⟨b, off + i * 7 + 6, none⟩) hb).trans HC6.out
      have hx' := Lib.hid hx
      clear hx c0 c1 c2 c3 c4 c5 c6 hil hm
      by_cases hk100 : 100 < kl
      · have f2 : (100 : Int) < (kl : Int) := by omega
        go_wp2
        go_ret
        exact ⟨rfl, HH.out.to⟩
      have f2 : ¬ (100 : Int) < (kl : Int) := by omega
      have HMO : Hid (OkM ⟨k, cc, bb, e, v, u, l⟩) := Lib.hid ⟨hx'.out, bindsB_ok hk (by omega)⟩
      clear hx'
      obtain ⟨v', w4, hr1, hr2, hr3⟩ := append_binds (cap := kc) (bindsB_at (hk.below HH.out.to) (P := fun _ => True) fun _ _ => trivial) (by omega)
      obtain ⟨bs4, h4, hs4, hr4⟩ := HH.out.row kp_law kq_law (gb_none hr3) hr2
      obtain ⟨oa, oc, hv⟩ := hr4.form
      subst hv
      rw [hll] at hr1 hr4
      have HAP := Lib.hid hr1
      have hb4 : b < w4.heap.size := Nat.lt_of_lt_of_le hb h4.to.size
      have r0 := (h4.to.cell (p := ⟨b, off + i * 7, none⟩) hb).trans HC0.out
      have r1 := (h4.to.cell (p := ⟨b, off + i * 7 + 1, none⟩) hb).trans HC1.out
      have r2 := (h4.to.cell (p := ⟨b, off + i * 7 + 2, none⟩) hb).trans HC2.out
      have r3 := (h4.to.cell (p := ⟨b, off + i * 7 + 3, none⟩) hb).trans HC3.out
      have r4 := (h4.to.cell (p := ⟨b, off + i * 7 + 4, none⟩) hb).trans HC4.out
      have r5 := (h4.to.cell (p := ⟨b, off + i * 7 + 5, none⟩) hb).trans HC5.out
      have r6 := (h4.to.cell (p := ⟨b, off + i * 7 + 6, none⟩) hb).trans HC6.out
      have h5 := h4.push kp_law kq_law (msgO k cc bb e v u oa kl oc)
      have H5 := Lib.hid h5
      have HR5 : Hid (RowK ((w4.heap.size, msgO k cc bb e v u oa kl oc) :: bs4) (.slice oa kl oc) l) := Lib.hid (hr4.more fun y hy => List.mem_cons_of_mem _ hy)
      have hkl : kl ≤ 100 := by omega
      have HKL := Lib.hid hkl
      clear h4 h5 hr1 hr2 hr3 hs4 hr4 hk hkl hll HH hk100
      go_upto_region 14 with (at_builtin; refine wpList_append_any rfl _ _ _ _ rfl _ _ _ _ rfl rfl HAP.out ?_)
      clear q0 q1 q2 q3 q4 q5 q6 hbw
      go_upto_region 16 with fail
      obtain ⟨W5, hW5⟩ : ∃ W, w4.alloc (msgO k cc bb e v u oa kl oc) = W := ⟨_, rfl⟩
      rw [hW5] at H5 ⊢
      obtain ⟨bs5, hbs5⟩ : ∃ l, (w4.heap.size, msgO k cc bb e v u oa kl oc) :: bs4 = l := ⟨_, rfl⟩
      have hm5 : (w4.heap.size, msgO k cc bb e v u oa kl oc) ∈ bs5 := by rw [← hbs5]; exact List.mem_cons_self ..
      rw [hbs5] at H5 HR5
      obtain ⟨G, hG⟩ : ∃ g, w4.heap.size = g := ⟨_, rfl⟩
      rw [hG] at hm5 ⊢
      have HM5 := Lib.hid hm5
      clear hW5 hbs5 hG hm5 HAP r0 r1 r2 r3 r4 r5 r6 hb4
      have HOD2 : Hid (OkC (recvC D ⟨k, cc, bb, e, v, u, l⟩)) := Lib.hid (HOD.out.recv _)
      have HCA : Hid (∀ W, M4 w W p D c E0 q D d E0 bs5 → Calls Try.prog 11 #[.pointer (some ⟨p, 0, none⟩), msgV k cc bb e v u oa kl oc] W fun x w' => x = .returned (.bool (tookC D ⟨k, cc, bb, e, v, u, l⟩)) ∧ M4 w w' p (recvC D ⟨k, cc, bb, e, v, u, l⟩) c E0 q D d E0 bs5) := Lib.hid fun W hW => four_aR hW HOD.out k cc bb e v u HMO.out HR5.out
      have HCB : Hid (∀ W D', M4 w W p D' c E0 q D d E0 bs5 → Calls Try.prog 12 #[.pointer (some ⟨q, 0, none⟩), msgV k cc bb e v u ka kl kc] W fun x w' => x = .returned (.bool (tookC D ⟨k, cc, bb, e, v, u, l⟩)) ∧ M4 w w' p D' c E0 q (recvC D ⟨k, cc, bb, e, v, u, l⟩) d E0 bs5) := Lib.hid fun W D' hW => four_bR hW HOD.out k cc bb e v u HMO.out (HK.out.below hW.to)
      obtain ⟨tk, htk⟩ : ∃ t, tookC D ⟨k, cc, bb, e, v, u, l⟩ = t := ⟨_, rfl⟩
      obtain ⟨D2, hD2⟩ : ∃ t, recvC D ⟨k, cc, bb, e, v, u, l⟩ = t := ⟨_, rfl⟩
      rw [htk, hD2] at HCA HCB
      rw [hD2] at HOD2
      have HCS : Hid (∀ W, M4 w W p D2 c E0 q D2 d E0 bs5 → Calls Try.prog 13 #[.slice oa kl oc, .slice ka kl kc] W fun x w' => x = .returned (.bool true) ∧ M4 w w' p D2 c E0 q D2 d E0 bs5) := Lib.hid fun W hW => (same8_self oa ka kl oc kl kc l W (by have := HKL.out; omega) (HR5.out.now hW) (bindsB_at (HK.out.below hW.to) fun b hb => Nat.lt_of_lt_of_le hb hW.to.size)).mono fun x w' ⟨h1, h2⟩ => ⟨h1, hW.below kp_law kq_law h2⟩
      clear htk hD2
      go_wp2
      have H6 := Lib.hid (H5.out.drew kp_law kq_law)
      refine region_mix (fun W => ∃ D1 D2, M4 w W p D1 c E0 q D2 d E0 bs5) (17) (.reads [0, 1, 3, 4, 5, 6, 7] (.only 2 (.only 8 (.reads [9, 10, 11, 12, 13, 14, 15, 16] (.only 17 (.only 18 (.only 19 (.stop)))))))) (by kernel_rfl) (by kernel_rfl) (⟨_, _, H6.out⟩) ?_
      repeat (
        refine plan_read rfl (fun K hK => ?_)
        first
          | (refine plan_neg ?_ ?_
             focus (first | (go_simp; done) | (go_simp; decide))
             go_simp
             refine hK _ ?_
             clear hK K)
          | (apply plan_pos
             focus (go_simp; done)
             focus (
               intro W hW
               (obtain ⟨_, _, hM⟩ := hW; obtain ⟨g0, g1, g2, g3, g4, g5, g6, _, gl⟩ := msg_cells (hM.own HM5.out); have hbW := Nat.lt_of_lt_of_le HB.out hM.to.size; have d0 := (hM.to.cell (p := ⟨b, off + i * 7, none⟩) HB.out).trans HC0.out; have d1 := (hM.to.cell (p := ⟨b, off + i * 7 + 1, none⟩) HB.out).trans HC1.out; have d2 := (hM.to.cell (p := ⟨b, off + i * 7 + 2, none⟩) HB.out).trans HC2.out; have d3 := (hM.to.cell (p := ⟨b, off + i * 7 + 3, none⟩) HB.out).trans HC3.out; have d4 := (hM.to.cell (p := ⟨b, off + i * 7 + 4, none⟩) HB.out).trans HC4.out; have d5 := (hM.to.cell (p := ⟨b, off + i * 7 + 5, none⟩) HB.out).trans HC5.out; have d6 := (hM.to.cell (p := ⟨b, off + i * 7 + 6, none⟩) HB.out).trans HC6.out)
               go_simp
               first
                 | done
                 | exact rfl)
             go_simp
             refine hK _ ?_
             clear hK K))
      refine plan_only rfl (fun Q hQ => ?_)
      go_wp2_with (go_at_call 11; (with_reducible refine (HCA.out _ H6.out).mono ?_); rintro e' w7 ⟨rfl, h7⟩; have H7 := Lib.hid h7; clear h7)
      refine hQ _ _ (fun _ => ⟨_, _, H7.out⟩) ?_
      clear hQ Q
      refine plan_only rfl (fun Q hQ => ?_)
      go_wp2_with (go_at_call 12; (with_reducible refine (HCB.out _ _ H7.out).mono ?_); rintro e' w8 ⟨rfl, h8⟩; have H8 := Lib.hid h8; clear h8)
      refine hQ _ _ (fun _ => ⟨_, _, H8.out⟩) ?_
      clear hQ Q
      have htt : (tk != tk) = false := by cases tk <;> rfl
      repeat (
        refine plan_read rfl (fun K hK => ?_)
        first
          | (refine plan_neg ?_ ?_
             focus (first | (go_simp; done) | (go_simp; decide))
             go_simp
             refine hK _ ?_
             clear hK K)
          | (apply plan_pos
             focus (go_simp; done)
             focus (
               intro W hW
               (obtain ⟨_, _, hM⟩ := hW; obtain ⟨g0, g1, g2, g3, g4, g5, g6, _, gl⟩ := msg_cells (hM.own HM5.out); have hbW := Nat.lt_of_lt_of_le HB.out hM.to.size; have d0 := (hM.to.cell (p := ⟨b, off + i * 7, none⟩) HB.out).trans HC0.out; have d1 := (hM.to.cell (p := ⟨b, off + i * 7 + 1, none⟩) HB.out).trans HC1.out; have d2 := (hM.to.cell (p := ⟨b, off + i * 7 + 2, none⟩) HB.out).trans HC2.out; have d3 := (hM.to.cell (p := ⟨b, off + i * 7 + 3, none⟩) HB.out).trans HC3.out; have d4 := (hM.to.cell (p := ⟨b, off + i * 7 + 4, none⟩) HB.out).trans HC4.out; have d5 := (hM.to.cell (p := ⟨b, off + i * 7 + 5, none⟩) HB.out).trans HC5.out; have d6 := (hM.to.cell (p := ⟨b, off + i * 7 + 6, none⟩) HB.out).trans HC6.out)
               go_simp
               first
                 | done
                 | exact rfl)
             go_simp
             refine hK _ ?_
             clear hK K))
      refine plan_only rfl (fun Q hQ => ?_)
      go_wp2_with (go_at_call 13; (with_reducible refine (HCS.out _ H8.out).mono ?_); rintro e' w9 ⟨rfl, h9⟩; have H9 := Lib.hid h9; clear h9)
      refine hQ _ _ (fun h => absurd h (by omega)) ?_
      clear hQ Q
      refine plan_only rfl (fun Q hQ => ?_)
      go_wp2
      refine hQ _ _ (fun h => absurd h (by omega)) ?_
      clear hQ Q
      refine plan_only rfl (fun Q hQ => ?_)
      go_wp2
      refine hQ _ _ (fun h => absurd h (by omega)) ?_
      clear hQ Q
      unfold Plan.wp
      have hd64 : D2.l.length ≤ 64 := HOD2.out.few.1
      obtain ⟨dn, hdn⟩ : ∃ n, D2.l.length = n := ⟨_, rfl⟩
      rw [hdn] at hd64
      have HDN := Lib.hid hdn
      have HD64 := Lib.hid hd64
      have HU : Hid (i + 1 ≤ len) := Lib.hid hlt
      clear hdn hlt hi
      go_wp2
      go_loopw [19] (fun jv wx => ∃ j cs, j ≤ kl ∧ jv = .int .i64 ((j : Nat) : Int) ∧ M4 w wx p D2 c E0 q D2 d E0 cs ∧ OwnRow cs oa kl) (fun jv _ => 101 - (intOf jv).toNat)
      case atStart => exact ⟨0, bs5, Nat.zero_le _, rfl, H9.out, HR5.out.own⟩
      case round =>
        clear H6 H7 H8 H9 HCA HCB HCS HR5 HM5
        obtain ⟨j, cs, hj, rfl, hh, how⟩ := hrel
        have HH := Lib.hid hh
        have hkl := HKL.out
        by_cases hji : j < kl
        · obtain ⟨g, rfl, hgl, ⟨y, hy⟩, hfz, cs', h9, hr9⟩ := hh.over kp_law kq_law how hji (.int .i64 (-1))
          have H9 := Lib.hid h9
          have HR9 := Lib.hid hr9
          have f3 : (j : Int) < (kl : Int) := by omega
          have f4 : (0 : Int) ≤ (j : Int) := by omega
          have HV : Hid (j + 1 ≤ kl) := Lib.hid hji
          clear hh how h9 hr9 hji hj
          go_wp2
          go_roundw
          case rel => exact ⟨j + 1, cs', HV.out, by go_num, H9.out, HR9.out⟩
          case measure => simp [intOf]; omega
        · have hjn : j = kl := by omega
          have f3 : ¬ (j : Int) < (kl : Int) := by omega
          clear hh how hji hj hjn
          obtain ⟨rl, hrl⟩ : ∃ l, runC D2 now = l := ⟨_, rfl⟩
          have hr64 := run_len HOD2.out now
          rw [hrl] at hr64
          obtain ⟨rn, hrn⟩ : ∃ n, rl.length = n := ⟨_, rfl⟩
          rw [hrn] at hr64
          have HRL := Lib.hid hrl
          have HRN := Lib.hid hrn
          have HR64 := Lib.hid hr64
          clear hrl hrn
          go_wp2_with (first
            | (go_at_call 15; (with_reducible refine (four_aP HH.out HOD2.out HDN.out).mono ?_); rintro e' w10 ⟨ra, rc, ⟨rfl, ho10, hb10⟩, h10⟩; have H10 := Lib.hid h10; have HO10 := Lib.hid ho10; clear ho10 hb10 h10)
            | (go_at_call 16; (with_reducible refine (four_bP H10.out HOD2.out HDN.out).mono ?_); rintro e' w11 ⟨sa, sc, ⟨rfl, ho11, hb11⟩, h11⟩; have H11 := Lib.hid h11; have HC12 := Lib.hid (four_rep HD64.out HO10.out hb11 ho11); clear ho11 hb11 h11)
            | (go_at_call 14; (with_reducible refine HC12.out.mono ?_); rintro e' w12 ⟨rfl, hb12⟩; have H12 := Lib.hid (H11.out.below kp_law kq_law hb12); clear hb12)
            | (go_at_call 17; (with_reducible refine (four_aU H12.out HOD2.out now NOW.out HRL.out HRN.out).mono ?_); rintro e' w13 ⟨ta, tc, ⟨rfl, ho13, hb13⟩, h13⟩; have H13 := Lib.hid h13; have HO13 := Lib.hid ho13; clear ho13 hb13 h13)
            | (go_at_call 18; (with_reducible refine (four_bU H13.out HOD2.out now NOW.out HRL.out HRN.out).mono ?_); rintro e' w14 ⟨ua, uc, ⟨rfl, ho14, hb14⟩, h14⟩; have H14 := Lib.hid h14; have HC15 := Lib.hid (four_run HR64.out HO13.out hb14 ho14); clear ho14 hb14 h14)
            | (go_at_call 13; (with_reducible refine HC15.out.mono ?_); rintro e' w15 ⟨rfl, hb15⟩; have H15 := Lib.hid (H14.out.below kp_law kq_law hb15); clear hb15))
          go_roundw
          case rel => exact ⟨i + 1, D2, cs, HU.out, HOD2.out, by go_num, H15.out⟩
          case measure => simp [intOf]; omega
    · have hii : ¬ (i : Int) < (len : Int) := by omega
      clear hlt hi
      go_wp2
      go_loopw [20] (fun iv wr => ∃ i E bs, i ≤ len2 ∧ i ≤ 60 ∧ OkC E ∧ iv = .int .i64 ((i : Nat) : Int) ∧ M4 w wr p D c E q D d E bs) (fun iv _ => 61 - (intOf iv).toNat)
      case atStart => exact ⟨0, E0, bs, Nat.zero_le _, Nat.zero_le _, HOE0.out, rfl, HH.out⟩
      case round =>
        clear HH
        obtain ⟨i2, E, bs, hi, hi60, hok, rfl, hh⟩ := hrel
        have HH := Lib.hid hh
        have HOE := Lib.hid hok
        clear hh hok HOE0
        by_cases hlt : i2 < len2
        · by_cases h60 : i2 < 60
          · have g1' : (i2 : Int) < (len2 : Int) := by omega
            have g2' : (i2 : Int) < 60 := by omega
            have hi0 : (0 : Int) ≤ (i2 : Int) := by omega
            have HU : Hid (i2 + 1 ≤ len2 ∧ i2 + 1 ≤ 60) := Lib.hid ⟨hlt, h60⟩
            obtain ⟨b, off, rfl, hb, hil, hx, c0, c1, c2, c3, c4, c5, ka, kl, kc, c6, hk⟩ := HZ.out.get hlt
            obtain ⟨x, hxe⟩ : ∃ x, z[i2] = x := ⟨_, rfl⟩
            rw [hxe] at hx c0 c1 c2 c3 c4 c5 hk
            obtain ⟨⟨k, cc, bb, e, v, u, l⟩, hm⟩ : ∃ m, fitM x = m := ⟨_, rfl⟩
            have hmo := fitM_ok x
            rw [hm] at hmo
            have HMO := Lib.hid hmo
            have HF : Hid (∀ W Ec Ed bs, M4 w W p D c Ec q D d Ed bs → Calls Try.prog 19 #[.agg #[.int .i64 x.kind, .int .i64 x.cell, .int .i64 x.boot, .int .i64 x.epoch, .int .i64 x.ver, .int .i64 x.unt, .slice ka kl kc]] W fun r w' => ∃ a cap cs, r = .returned (msgV k cc bb e v u a l.length cap) ∧ M4 w w' p D c Ec q D d Ed cs ∧ RowK cs (.slice a l.length cap) l) := Lib.hid fun W Ec Ed bs hW => (hW.fit kp_law kq_law x (kc := kc) hx (hk.below hW.to) hm).mono fun r w' ⟨a, cap, cs, h1, h2, _, h4⟩ => ⟨a, cap, cs, h1, h2, h4⟩
            obtain ⟨n, hn⟩ : ∃ n, l.length = n := ⟨_, rfl⟩
            rw [hn] at HF
            obtain ⟨x1, hx1⟩ : ∃ n, x.kind = n := ⟨_, rfl⟩
            rw [hx1] at c0 HF
            obtain ⟨x2, hx2⟩ : ∃ n, x.cell = n := ⟨_, rfl⟩
            rw [hx2] at c1 HF
            obtain ⟨x3, hx3⟩ : ∃ n, x.boot = n := ⟨_, rfl⟩
            rw [hx3] at c2 HF
            obtain ⟨x4, hx4⟩ : ∃ n, x.epoch = n := ⟨_, rfl⟩
            rw [hx4] at c3 HF
            obtain ⟨x5, hx5⟩ : ∃ n, x.ver = n := ⟨_, rfl⟩
            rw [hx5] at c4 HF
            obtain ⟨x6, hx6⟩ : ∃ n, x.unt = n := ⟨_, rfl⟩
            rw [hx6] at c5 HF
            have HC0 := Lib.hid c0
            have HC1 := Lib.hid c1
            have HC2 := Lib.hid c2
            have HC3 := Lib.hid c3
            have HC4 := Lib.hid c4
            have HC5 := Lib.hid c5
            have HC6 := Lib.hid c6
            have HB := Lib.hid hb
            have HOE2 : Hid (OkC (recvC E ⟨k, cc, bb, e, v, u, l⟩)) := Lib.hid (HOE.out.recv _)
            have HCC : Hid (∀ W cs fa fc, M4 w W p D c E q D d E cs → RowK cs (.slice fa n fc) l → Calls Try.prog 11 #[.pointer (some ⟨c, 0, none⟩), msgV k cc bb e v u fa n fc] W fun x w' => x = .returned (.bool (tookC E ⟨k, cc, bb, e, v, u, l⟩)) ∧ M4 w w' p D c (recvC E ⟨k, cc, bb, e, v, u, l⟩) q D d E cs) := Lib.hid fun W cs fa fc hW hr => four_cR hW HOE.out k cc bb e v u HMO.out hr
            have HCD : Hid (∀ W E2 cs fa fc, M4 w W p D c E2 q D d E cs → RowK cs (.slice fa n fc) l → Calls Try.prog 12 #[.pointer (some ⟨d, 0, none⟩), msgV k cc bb e v u fa n fc] W fun x w' => x = .returned (.bool (tookC E ⟨k, cc, bb, e, v, u, l⟩)) ∧ M4 w w' p D c E2 q D d (recvC E ⟨k, cc, bb, e, v, u, l⟩) cs) := Lib.hid fun W E2 cs fa fc hW hr => four_dR hW HOE.out k cc bb e v u HMO.out hr
            obtain ⟨tk, htk⟩ : ∃ t, tookC E ⟨k, cc, bb, e, v, u, l⟩ = t := ⟨_, rfl⟩
            obtain ⟨E2, hE2⟩ : ∃ t, recvC E ⟨k, cc, bb, e, v, u, l⟩ = t := ⟨_, rfl⟩
            rw [htk, hE2] at HCC HCD
            rw [hE2] at HOE2
            obtain ⟨dn, hdn⟩ : ∃ n, E2.l.length = n := ⟨_, rfl⟩
            have hd64 : dn ≤ 64 := by rw [← hdn]; exact HOE2.out.few.1
            obtain ⟨rl, hrl⟩ : ∃ l, runC E2 now = l := ⟨_, rfl⟩
            have hr64 := run_len HOE2.out now
            rw [hrl] at hr64
            obtain ⟨rn, hrn⟩ : ∃ n, rl.length = n := ⟨_, rfl⟩
            rw [hrn] at hr64
            have HDN := Lib.hid hdn
            have HD64 := Lib.hid hd64
            have HRL := Lib.hid hrl
            have HRN := Lib.hid hrn
            have HR64 := Lib.hid hr64
            have htt : (tk != tk) = false := by cases tk <;> rfl
            clear hx hk hxe hm hmo hil hb hn hx1 hx2 hx3 hx4 hx5 hx6 c0 c1 c2 c3 c4 c5 c6 htk hE2 hdn hd64 hrl hr64 hrn hlt h60 hi hi60
            go_wp2
            have H3 := Lib.hid (HH.out.drew kp_law kq_law)
            clear HH
            refine region_mix (fun W => Below w.heap.size w W) (29) (.reads [0, 1, 2, 3, 4, 7, 8, 9, 10, 11] (.only 5 (.only 6 (.only 12 (.only 13 (.reads [14, 15, 16, 18] (.only 17 (.only 19 (.only 20 (.reads [21, 22, 23, 24, 25, 27, 28] (.only 26 (.only 29 (.only 30 (.only 31 (.only 32 (.stop)))))))))))))))) (by kernel_rfl) (by kernel_rfl) (H3.out.to) ?_
            repeat (
              refine plan_read rfl (fun K hK => ?_)
              first
                | (refine plan_neg ?_ ?_
                   focus (first | (go_simp; done) | (go_simp; decide))
                   go_simp
                   refine hK _ ?_
                   clear hK K)
                | (apply plan_pos
                   focus (go_simp; done)
                   focus (
                     intro W hW
                     (have hbW := Nat.lt_of_lt_of_le HB.out hW.size; have d0 := (hW.cell (p := ⟨b, off + i2 * 7, none⟩) HB.out).trans HC0.out; have d1 := (hW.cell (p := ⟨b, off + i2 * 7 + 1, none⟩) HB.out).trans HC1.out; have d2 := (hW.cell (p := ⟨b, off + i2 * 7 + 2, none⟩) HB.out).trans HC2.out; have d3 := (hW.cell (p := ⟨b, off + i2 * 7 + 3, none⟩) HB.out).trans HC3.out; have d4 := (hW.cell (p := ⟨b, off + i2 * 7 + 4, none⟩) HB.out).trans HC4.out; have d5 := (hW.cell (p := ⟨b, off + i2 * 7 + 5, none⟩) HB.out).trans HC5.out; have d6 := (hW.cell (p := ⟨b, off + i2 * 7 + 6, none⟩) HB.out).trans HC6.out)
                     go_simp
                     first
                       | done
                       | exact rfl)
                   go_simp
                   refine hK _ ?_
                   clear hK K))
            refine plan_only rfl (fun Q hQ => ?_)
            go_wp2_with (go_at_call 19; (with_reducible refine (HF.out _ _ _ _ H3.out).mono ?_); rintro e' w4 ⟨fa, fc, cs4, rfl, h4, hr4⟩; have H4 := Lib.hid h4; have HR4 := Lib.hid hr4; clear h4 hr4)
            refine hQ _ _ (fun h => H4.out.to) ?_
            clear hQ Q
            refine plan_only rfl (fun Q hQ => ?_)
            go_wp2_with (go_at_call 11; (with_reducible refine (HCC.out _ _ _ _ H4.out HR4.out).mono ?_); rintro e' w5 ⟨rfl, h5⟩; have H5 := Lib.hid h5; clear h5)
            refine hQ _ _ (fun h => H5.out.to) ?_
            clear hQ Q
            refine plan_only rfl (fun Q hQ => ?_)
            go_wp2_with (go_at_call 19; (with_reducible refine (HF.out _ _ _ _ H5.out).mono ?_); rintro e' w6 ⟨fa2, fc2, cs6, rfl, h6, hr6⟩; have H6 := Lib.hid h6; have HR6 := Lib.hid hr6; clear h6 hr6)
            refine hQ _ _ (fun h => H6.out.to) ?_
            clear hQ Q
            refine plan_only rfl (fun Q hQ => ?_)
            go_wp2_with (go_at_call 12; (with_reducible refine (HCD.out _ _ _ _ _ H6.out HR6.out).mono ?_); rintro e' w7 ⟨rfl, h7⟩; have H7 := Lib.hid h7; clear h7)
            refine hQ _ _ (fun h => H7.out.to) ?_
            clear hQ Q
            repeat (
              refine plan_read rfl (fun K hK => ?_)
              first
                | (refine plan_neg ?_ ?_
                   focus (first | (go_simp; done) | (go_simp; decide))
                   go_simp
                   refine hK _ ?_
                   clear hK K)
                | (apply plan_pos
                   focus (go_simp; done)
                   focus (
                     intro W hW
                     (skip)
                     go_simp
                     first
                       | done
                       | exact rfl)
                   go_simp
                   refine hK _ ?_
                   clear hK K))
            refine plan_only rfl (fun Q hQ => ?_)
            go_wp2_with (go_at_call 15; (with_reducible refine (four_cP H7.out HOE2.out HDN.out).mono ?_); rintro e' w10 ⟨ra, rc, ⟨rfl, ho10, hb10⟩, h10⟩; have H10 := Lib.hid h10; have HO10 := Lib.hid ho10; clear ho10 hb10 h10)
            refine hQ _ _ (fun h => H10.out.to) ?_
            clear hQ Q
            refine plan_only rfl (fun Q hQ => ?_)
            go_wp2_with (go_at_call 16; (with_reducible refine (four_dP H10.out HOE2.out HDN.out).mono ?_); rintro e' w11 ⟨sa, sc, ⟨rfl, ho11, hb11⟩, h11⟩; have H11 := Lib.hid h11; have HC12 := Lib.hid (four_rep HD64.out HO10.out hb11 ho11); clear ho11 hb11 h11)
            refine hQ _ _ (fun h => H11.out.to) ?_
            clear hQ Q
            refine plan_only rfl (fun Q hQ => ?_)
            go_wp2_with (go_at_call 14; (with_reducible refine (HC12.out).mono ?_); rintro e' w12 ⟨rfl, hb12⟩; have H12 := Lib.hid (H11.out.below kp_law kq_law hb12); clear hb12)
            refine hQ _ _ (fun h => H12.out.to) ?_
            clear hQ Q
            repeat (
              refine plan_read rfl (fun K hK => ?_)
              first
                | (refine plan_neg ?_ ?_
                   focus (first | (go_simp; done) | (go_simp; decide))
                   go_simp
                   refine hK _ ?_
                   clear hK K)
                | (apply plan_pos
                   focus (go_simp; done)
                   focus (
                     intro W hW
                     (skip)
                     go_simp
                     first
                       | done
                       | exact rfl)
                   go_simp
                   refine hK _ ?_
                   clear hK K))
            refine plan_only rfl (fun Q hQ => ?_)
            go_wp2_with (go_at_call 17; (with_reducible refine (four_cU H12.out HOE2.out now NOW.out HRL.out HRN.out).mono ?_); rintro e' w13 ⟨ta, tc, ⟨rfl, ho13, hb13⟩, h13⟩; have H13 := Lib.hid h13; have HO13 := Lib.hid ho13; clear ho13 hb13 h13)
            refine hQ _ _ (fun h => H13.out.to) ?_
            clear hQ Q
            refine plan_only rfl (fun Q hQ => ?_)
            go_wp2_with (go_at_call 18; (with_reducible refine (four_dU H13.out HOE2.out now NOW.out HRL.out HRN.out).mono ?_); rintro e' w14 ⟨ua, uc, ⟨rfl, ho14, hb14⟩, h14⟩; have H14 := Lib.hid h14; have HC15 := Lib.hid (four_run HR64.out HO13.out hb14 ho14); clear ho14 hb14 h14)
            refine hQ _ _ (fun h => absurd h (by omega)) ?_
            clear hQ Q
            refine plan_only rfl (fun Q hQ => ?_)
            go_wp2_with (go_at_call 13; (with_reducible refine (HC15.out).mono ?_); rintro e' w15 ⟨rfl, hb15⟩; have H15 := Lib.hid (H14.out.below kp_law kq_law hb15); clear hb15)
            refine hQ _ _ (fun h => absurd h (by omega)) ?_
            clear hQ Q
            refine plan_only rfl (fun Q hQ => ?_)
            go_wp2
            refine hQ _ _ (fun h => absurd h (by omega)) ?_
            clear hQ Q
            refine plan_only rfl (fun Q hQ => ?_)
            go_wp2
            refine hQ _ _ (fun h => absurd h (by omega)) ?_
            clear hQ Q
            unfold Plan.wp
            go_wp2
            go_roundw
            case rel => exact ⟨i2 + 1, E2, _, HU.out.1, HU.out.2, HOE2.out, by go_num, H15.out⟩
            case measure => simp [intOf]; omega
          · have g1' : (i2 : Int) < (len2 : Int) := by omega
            have g2' : ¬ (i2 : Int) < 60 := by omega
            clear hlt h60 hi hi60
            obtain ⟨dn, hdn⟩ : ∃ n, D.l.length = n := ⟨_, rfl⟩
            have hd64 : dn ≤ 64 := by rw [← hdn]; exact HOD.out.few.1
            have HDN := Lib.hid hdn
            have HD64 := Lib.hid hd64
            clear hdn
            go_wp2_with (first
              | (go_at_call 15; (with_reducible refine (four_aP HH.out HOD.out HDN.out).mono ?_); rintro e' w10 ⟨ra, rc, ⟨rfl, ho10, hb10⟩, h10⟩; have H10 := Lib.hid h10; have HO10 := Lib.hid ho10; clear ho10 hb10 h10)
              | (go_at_call 16; (with_reducible refine (four_bP H10.out HOD.out HDN.out).mono ?_); rintro e' w11 ⟨sa, sc, ⟨rfl, ho11, hb11⟩, h11⟩; have H11 := Lib.hid h11; have HC12 := Lib.hid (four_rep HD64.out HO10.out hb11 ho11); clear ho11 hb11 h11)
              | (go_at_call 14; (with_reducible refine HC12.out.mono ?_); rintro e' w12 ⟨rfl, hb12⟩; have H12 := Lib.hid (H11.out.below kp_law kq_law hb12); clear hb12))
            go_ret
            exact ⟨rfl, H12.out.to⟩
        · have g1' : ¬ (i2 : Int) < (len2 : Int) := by omega
          clear hlt hi hi60
          obtain ⟨dn, hdn⟩ : ∃ n, D.l.length = n := ⟨_, rfl⟩
          have hd64 : dn ≤ 64 := by rw [← hdn]; exact HOD.out.few.1
          have HDN := Lib.hid hdn
          have HD64 := Lib.hid hd64
          clear hdn
          go_wp2_with (first
            | (go_at_call 15; (with_reducible refine (four_aP HH.out HOD.out HDN.out).mono ?_); rintro e' w10 ⟨ra, rc, ⟨rfl, ho10, hb10⟩, h10⟩; have H10 := Lib.hid h10; have HO10 := Lib.hid ho10; clear ho10 hb10 h10)
            | (go_at_call 16; (with_reducible refine (four_bP H10.out HOD.out HDN.out).mono ?_); rintro e' w11 ⟨sa, sc, ⟨rfl, ho11, hb11⟩, h11⟩; have H11 := Lib.hid h11; have HC12 := Lib.hid (four_rep HD64.out HO10.out hb11 ho11); clear ho11 hb11 h11)
            | (go_at_call 14; (with_reducible refine HC12.out.mono ?_); rintro e' w12 ⟨rfl, hb12⟩; have H12 := Lib.hid (H11.out.below kp_law kq_law hb12); clear hb12))
          go_ret
          exact ⟨rfl, H12.out.to⟩
theorem own : ownKnob Try.prog.godebug = none := by kernel_rfl
theorem laidOut : laidOutB Try.prog = true := by kernel_rfl

set_option maxRecDepth 100000 in
theorem lifted (os : Os) (started : os.Started) (H : Type) (enc : TypeId × Value → H) :
    ReturnsInHanded {} Try.checked os 3 .any (Rows.cellPlaysSpec.pre6 enc Try.prog Try.f3 Rows.cellPlaysRow.domain false) (Rows.cellPlaysSpec.post enc Try.prog Try.f3 false true false false) := by
  refine returnsInHanded_of_change_sized (C := Try.checked) own started (by kernel_rfl) Try.func3
    (ChangeSpec.witness6 (enc := enc) (C := Try.checked) false ⟨#[], #[.int .i64 0, .int .i64 0, .slice none 0 0, .slice none 0 0, .int .i64 0], []⟩ 8 (by kernel_rfl) (by kernel_rfl) (by kernel_rfl) (by kernel_rfl)) ?_
  intro W base args ds gs before hval0 hW _ hsz0 _
  have hsz : (DataW.weightsEach Try.prog (Try.f3.params.toList ++ Rows.cellPlaysSpec.plain.varTypes Try.prog) (ds ++ gs)).all (· ≤ reachBytes) = true := hsz0
  have hval : ∀ (j : Nat) t v, Try.f3.params[j]? = some t → args[j]? = some v → Value.okWide Try.prog W .any base t v := hval0
  have hW' := hW
  obtain ⟨p, q, hA0, hV, rfl, hfz, hnd⟩ := hW
  have hA : DataW.TrodAll enc Try.prog W 0 (fun _ => true) true Try.f3.params.toList args.toList ds p := hA0
  rw [Try.params3] at hA hval hsz
  obtain ⟨v0, vs0, d0, ds0, p0, q0, hargs, rfl, rfl, h0, r0⟩ := trodAll_cons hA
  obtain ⟨v1, vs1, d1, ds1, p1, q1, rfl, rfl, rfl, h1, r1⟩ := trodAll_cons r0
  obtain ⟨v2, vs2, d2, ds2, p2, q2, rfl, rfl, rfl, h2, r2⟩ := trodAll_cons r1
  obtain ⟨v3, vs3, d3, ds3, p3, q3, rfl, rfl, rfl, h3, r3⟩ := trodAll_cons r2
  obtain ⟨v4, vs4, d4, ds4, p4, q4, rfl, rfl, rfl, h4, r4⟩ := trodAll_cons r3
  obtain ⟨rfl, rfl, rfl⟩ := trodAll_nil r4
  obtain rfl : args = #[v0, v1, v2, v3, v4] := by cases args; simp_all
  obtain ⟨rfl, rfl⟩ := trodVars_none hV
  have k0 := h0
  have lt0 : ∀ x ∈ p0, x.block < W.heap.size := by obtain ⟨m, hm⟩ := k0; exact DataW.trod_lt m _ _ _ hm
  have k1 := h1
  have lt1 : ∀ x ∈ p1, x.block < W.heap.size := by obtain ⟨m, hm⟩ := k1; exact DataW.trod_lt m _ _ _ hm
  have k2 := h2
  have lt2 : ∀ x ∈ p2, x.block < W.heap.size := by obtain ⟨m, hm⟩ := k2; exact DataW.trod_lt m _ _ _ hm
  have k3 := h3
  have lt3 : ∀ x ∈ p3, x.block < W.heap.size := by obtain ⟨m, hm⟩ := k3; exact DataW.trod_lt m _ _ _ hm
  have k4 := h4
  have lt4 : ∀ x ∈ p4, x.block < W.heap.size := by obtain ⟨m, hm⟩ := k4; exact DataW.trod_lt m _ _ _ hm
  obtain ⟨a0, rfl, rfl, rfl, w0⟩ := open_int Try.underlying3 (hval 0 3 v0 rfl rfl) h0
  have b0 := in_of_wf w0
  obtain ⟨a1, rfl, rfl, rfl, w1⟩ := open_int Try.underlying3 (hval 1 3 v1 rfl rfl) h1
  have b1 := in_of_wf w1
  obtain ⟨a2, len2, cap2, rfl⟩ := okWide_slice Try.underlying22 (hval 2 22 v2 rfl rfl)
  obtain ⟨z2, b2⟩ := msgs_of k2 (weights_at hsz (j := 2) (t := 22) rfl rfl)
  obtain ⟨a3, len3, cap3, rfl⟩ := okWide_slice Try.underlying23 (hval 3 23 v3 rfl rfl)
  obtain ⟨z3, b3⟩ := grants_of k3 (weights_at hsz (j := 3) (t := 23) rfl rfl)
  obtain ⟨a4, rfl, rfl, rfl, w4⟩ := open_int Try.underlying3 (hval 4 3 v4 rfl rfl) h4
  have b4 := in_of_wf w4
  clear hA0 hval0 hsz0 hsz
  refine (walk a0 a1 a2 len2 cap2 z2 a3 len3 cap3 z3 a4 W b0 b1 b2 b3 b4).mono fun e W' ⟨he, bel⟩ => ?_
  subst he
  exact ⟨_, rfl, _, _, _, [], _, [], hW', trodAll_mk1 (shut_bool Try.underlying4 _), (trodAll_cons_mk (Below.trod laidOut (by kernel_rfl) (of_decide_eq_true (by kernel_rfl)) k0 bel lt0) (trodAll_cons_mk (Below.trod laidOut (by kernel_rfl) (of_decide_eq_true (by kernel_rfl)) k1 bel lt1) (trodAll_cons_mk (Below.trod laidOut (by kernel_rfl) (of_decide_eq_true (by kernel_rfl)) k2 bel lt2) (trodAll_cons_mk (Below.trod laidOut (by kernel_rfl) (of_decide_eq_true (by kernel_rfl)) k3 bel lt3) (trodAll_cons_mk (Below.trod laidOut (by kernel_rfl) (of_decide_eq_true (by kernel_rfl)) k4 bel lt4) trodAll_mk0))))), rfl, bel.frame _, fun h => by cases h⟩

theorem over : Rows.cellPlaysRow.holds Try.pinned (OpenSpec.ofChange Rows.cellPlaysSpec) :=
  OpenClaim.holds_of_wide 3 Try.f3 rfl rfl rfl rfl rfl rfl rfl ⟨rfl, rfl, rfl, rfl, rfl⟩ rfl rfl rfl rfl rfl (by kernel_rfl) Try.func3 (by kernel_rfl)
    (of_decide_eq_true (by kernel_rfl)) (by unfold Func.isWrapper; first | (rw [if_pos (by decide +kernel)]; kernel_rfl) | (rw [if_neg (by decide +kernel)]; exact ⟨rfl, rfl⟩))
    (fun os started H enc _ => lifted os started H enc)

theorem proved : Rows.CellPlaysSaid := over
end Go.Proofs.Ytbbogkmibiealaa.lawCPlays
