/-
  The statement CellRises is proved for whatever raw grants: epoch and version never fall together, what is taken makes one of both rise, what is not taken changes nothing. No condition.
-/
import Derived.Deep.DeepCutAuto
import Derived.Test.YtbbogkmibiealaaCcalls
import Derived.Test.YtbbogkmibiealaaOpen18
import Derived.Test.YtbbogkmibiealaaRows
namespace Go.Proofs.Ytbbogkmibiealaa.lawCRises
open Go.ChangeShapes Go.WideShapes Go.ChangeAt Go.RowKit Gm

abbrev M (w wr : World) (p : Nat) (D : Ce) (bs : List (Nat × Obj)) : Prop := Held PCell (Nobody (X := Unit)) w wr p D 0 () bs
theorem st_keep (ms : List Ms) (c : Ce) : (stN ms c).n = c.n ∧ (stN ms c).boot = c.boot := by
  unfold stN
  induction ms generalizing c with
  | nil => exact ⟨rfl, rfl⟩
  | cons m ms ih =>
    have h1 := ih (recvC c m)
    have h2 := recv_keep c m
    exact ⟨h1.1.trans h2.1, h1.2.trans h2.2⟩
set_option maxRecDepth 100000 in
set_option maxHeartbeats 8000000 in
theorem walk (a : Option Addr) (len cap : Nat) (z : List GrE) (w : World) (h0 : GrantsAt w.heap.size w a len z) :
    Calls Try.prog 4 #[.slice a len cap] w fun e w' => e = .returned (.bool true) ∧ Below w.heap.size w w' := by
  have HZ := Lib.hid h0
  have hzl : z.length = len := h0.1
  have HZL := Lib.hid hzl
  have i0 : I64 0 := by unfold I64; omega
  have i1 : I64 1 := by unfold I64; omega
  have I0 := Lib.hid i0
  have I1 := Lib.hid i1
  have hlen : len ≤ 140737488351232 := h0.2.1
  have H0 := Lib.hid (Held.start (X := Ce) (Y := Unit) w (newC 0 0) ())
  obtain ⟨ms, hms⟩ : ∃ ms, z.map fitM = ms := ⟨_, rfl⟩
  have HMS := Lib.hid hms
  have HOK : Hid (∀ i, OkC (stN (ms.take i) (newC 0 1))) := Lib.hid fun i => st_ok (OkC.new 0 1 i0 i1) _
  have HKP : Hid (∀ i, (stN (ms.take i) (newC 0 1)).n = 0 ∧ (stN (ms.take i) (newC 0 1)).boot = 1) := Lib.hid fun i => st_keep _ _
  clear h0 hzl i0 i1 hms
  go_enter Try.func4, Try.ntmps4
  go_upto_region 2 with (go_at_call 8; with_reducible refine (awake_any w).mono ?_; rintro e w1 ⟨rfl, hb1⟩; have H1 := Lib.hid (H0.out.below nobody_law nobody_law hb1); clear hb1)
  go_upto_region 3 with (go_at_call 9; refine (H1.out.pNew1 nobody_law 0 1 I0.out I1.out).mono ?_; rintro e w2 ⟨p, rfl, h2⟩; have H2 : Hid (M w w2 p (newC 0 1) []) := Lib.hid h2; clear h2)
  clear H0 H1
  go_wp2
  go_loopw [5] (fun iv wr => ∃ i bs, i ≤ len ∧ i ≤ 80 ∧ iv = .int .i64 ((i : Nat) : Int) ∧ M w wr p (stN (ms.take i) (newC 0 1)) bs) (fun iv _ => 81 - (intOf iv).toNat)
  case atStart => exact ⟨0, [], Nat.zero_le _, Nat.zero_le _, rfl, H2.out⟩
  case round =>
    obtain ⟨i, bs, hi, hi40, rfl, hh⟩ := hrel
    clear H2
    have HH := Lib.hid hh
    have hok := HOK.out i
    have hkp := HKP.out i
    have hkp2 := HKP.out (i + 1)
    obtain ⟨D, hD⟩ : ∃ D, stN (ms.take i) (newC 0 1) = D := ⟨_, rfl⟩
    rw [hD] at HH hok hkp
    have HD := Lib.hid hD
    have HOD := Lib.hid hok
    have HKD := Lib.hid hkp
    clear hh hD hok hkp
    by_cases hlt : i < len
    · by_cases h40 : i < 80
      · have hii : (i : Int) < (len : Int) := by omega
        have hii40 : (i : Int) < 80 := by omega
        have hi0 : (0 : Int) ≤ (i : Int) := by omega
        have hd64 : D.l.length ≤ 64 := HOD.out.few.1
        obtain ⟨dn, hdn⟩ : ∃ n, D.l.length = n := ⟨_, rfl⟩
        have HC8 := Lib.hid (HH.out.pP1 nobody_law HOD.out)
        rw [hdn, HKD.out.1, HKD.out.2] at HC8
        rw [hdn] at hd64
        have HDN := Lib.hid hdn
        obtain ⟨E0, hE0⟩ : ∃ x, D.epoch = x := ⟨_, rfl⟩
        obtain ⟨V0, hV0⟩ : ∃ x, D.ver = x := ⟨_, rfl⟩
        obtain ⟨U0, hU0⟩ : ∃ x, D.unt = x := ⟨_, rfl⟩
        rw [hE0, hV0, hU0] at HC8
        have HE0 := Lib.hid hE0
        have HV0 := Lib.hid hV0
        have HU0 := Lib.hid hU0
        have HU : Hid (i + 1 ≤ len ∧ i + 1 ≤ 80) := Lib.hid ⟨hlt, h40⟩
        clear hdn hE0 hV0 hU0 h40 hi hi40
        go_upto_region 9 with (go_at_call 15; (with_reducible refine HC8.out.mono ?_); rintro e' w3 ⟨ra, rc, rfl, ho3, hb3, h3⟩
                               rw [← HDN.out] at ho3
                               obtain ⟨cs0, k1, k2, k3⟩ := HH.out.row pcell_law nobody_law hb3 ho3
                               rw [HDN.out] at k3
                               have k4 := k1.push pcell_law nobody_law (msgO 2 0 1 E0 V0 U0 ra dn rc)
                               have K4 := Lib.hid k4
                               have K3 : Hid (RowK ((w3.heap.size, msgO 2 0 1 E0 V0 U0 ra dn rc) :: cs0) (.slice ra dn rc) D.l) := Lib.hid (k3.more fun y hy => List.mem_cons_of_mem _ hy)
                               clear ho3 hb3 h3 k1 k2 k3 k4)
        obtain ⟨W3, hW3⟩ : ∃ W, w3.alloc (msgO 2 0 1 E0 V0 U0 ra dn rc) = W := ⟨_, rfl⟩
        rw [hW3] at K4 ⊢
        obtain ⟨bs3, hbs3⟩ : ∃ l, (w3.heap.size, msgO 2 0 1 E0 V0 U0 ra dn rc) :: cs0 = l := ⟨_, rfl⟩
        have hm3 : (w3.heap.size, msgO 2 0 1 E0 V0 U0 ra dn rc) ∈ bs3 := by rw [← hbs3]; exact List.mem_cons_self ..
        rw [hbs3] at K4 K3
        obtain ⟨G3, hG3⟩ : ∃ g, w3.heap.size = g := ⟨_, rfl⟩
        rw [hG3] at hm3 ⊢
        have HM3 := Lib.hid hm3
        clear hW3 hbs3 hG3 hm3 HC8 HH
        obtain ⟨bs, hbs⟩ : ∃ bs, bs3 = bs := ⟨_, rfl⟩
        subst hbs
        have HH := Lib.hid K4.out
        obtain ⟨b, off, rfl, hb, hil, hx, c0, c1, c2, c3, c4, c5, ka, kl, kc, c6, hk⟩ := (HZ.out.below HH.out.to).get hlt
        have hbw : b < W3.heap.size := Nat.lt_of_lt_of_le hb HH.out.to.size
        obtain ⟨x, hxe⟩ : ∃ x, z[i] = x := ⟨_, rfl⟩
        rw [hxe] at hx c0 c1 c2 c3 c4 c5 hk
        obtain ⟨⟨k, c, bb, e, v, u, l⟩, hm⟩ : ∃ m, fitM x = m := ⟨_, rfl⟩
        have hmo := fitM_ok x
        rw [hm] at hmo
        have hml : l.length ≤ 64 := by
          have h1 := (fitL_few x.l).1
          unfold fitM at hm
          injection hm with _ _ _ _ _ _ e7
          rw [e7] at h1
          omega
        have hms1 : ms[i]? = some ⟨k, c, bb, e, v, u, l⟩ := by rw [← HMS.out, List.getElem?_map, List.getElem?_eq_getElem hil, hxe, ← hm]; rfl
        have HMI := Lib.hid hms1
        have HFIT := Lib.hid (HH.out.fit pcell_law nobody_law x (kc := kc) hx hk hm)
        have HMO := Lib.hid hmo
        have HN : Hid (stN (ms.take (i + 1)) (newC 0 1) = recvC D ⟨k, c, bb, e, v, u, l⟩) := Lib.hid (by
          rw [List.take_add_one, hms1, Option.toList_some, st_snoc, HD.out])
        have HSTALE := Lib.hid (stale_now D ⟨k, c, bb, e, v, u, l⟩)
        have HOD2 := Lib.hid (HOD.out.recv ⟨k, c, bb, e, v, u, l⟩)
        obtain ⟨D2, hD2⟩ : ∃ D2, recvC D ⟨k, c, bb, e, v, u, l⟩ = D2 := ⟨_, rfl⟩
        rw [hD2] at HN HSTALE HOD2
        have HD2 := Lib.hid hD2
        clear hD2
        obtain ⟨n, hn⟩ : ∃ n, l.length = n := ⟨_, rfl⟩
        rw [hn] at HFIT hml
        have HLN := Lib.hid hn
        obtain ⟨x1, hx1⟩ : ∃ n, x.kind = n := ⟨_, rfl⟩
        rw [hx1] at c0 HFIT
        obtain ⟨x2, hx2⟩ : ∃ n, x.cell = n := ⟨_, rfl⟩
        rw [hx2] at c1 HFIT
        obtain ⟨x3, hx3⟩ : ∃ n, x.boot = n := ⟨_, rfl⟩
        rw [hx3] at c2 HFIT
        obtain ⟨x4, hx4⟩ : ∃ n, x.epoch = n := ⟨_, rfl⟩
        rw [hx4] at c3 HFIT
        obtain ⟨x5, hx5⟩ : ∃ n, x.ver = n := ⟨_, rfl⟩
        rw [hx5] at c4 HFIT
        obtain ⟨x6, hx6⟩ : ∃ n, x.unt = n := ⟨_, rfl⟩
        rw [hx6] at c5 HFIT
        clear hx hk hxe hm hmo hms1 hil hb hn hx1 hx2 hx3 hx4 hx5 hx6
        rw [HN.out] at hkp2
        have HKD2 := Lib.hid hkp2
        have hd264 : D2.l.length ≤ 64 := HOD2.out.few.1
        obtain ⟨dm, hdm⟩ : ∃ n, D2.l.length = n := ⟨_, rfl⟩
        have HDM := Lib.hid hdm
        rw [hdm] at hd264
        clear hdm hlt hkp2
        obtain ⟨tk, htk⟩ : ∃ b, tookC D ⟨k, c, bb, e, v, u, l⟩ = b := ⟨_, rfl⟩
        have HTK := Lib.hid htk
        clear htk
        go_upto_region 10 with (first
          | (go_at_call 19; (with_reducible refine HFIT.out.mono ?_); rintro e' w4 ⟨fa, fc, cs, rfl, h4, hs4, hr4⟩
             have HC5 : Hid (Calls Try.prog 11 #[.pointer (some ⟨p, 0, none⟩), msgV k c bb e v u fa n fc] w4 fun x w' => x = .returned (.bool tk) ∧ M w w' p D2 cs) := Lib.hid (by
               have h := h4.pR1 nobody_law HOD.out k c bb e v u HMO.out hr4
               rw [HD2.out, HTK.out] at h
               exact h)
             have HS4 := Lib.hid hs4
             clear h4 hs4 hr4)
          | (go_at_call 11; (with_reducible refine HC5.out.mono ?_); rintro e' w5 ⟨rfl, h5⟩
             have H5 := Lib.hid h5
             have HC6 := Lib.hid (h5.pP1 nobody_law HOD2.out)
             rw [HDM.out, HKD2.out.1, HKD2.out.2] at HC6
             clear h5))
        obtain ⟨E1, hE1⟩ : ∃ x, D2.epoch = x := ⟨_, rfl⟩
        obtain ⟨V1, hV1⟩ : ∃ x, D2.ver = x := ⟨_, rfl⟩
        obtain ⟨U1, hU1⟩ : ∃ x, D2.unt = x := ⟨_, rfl⟩
        rw [hE1, hV1, hU1] at HC6
        have HE1 := Lib.hid hE1
        have HV1 := Lib.hid hV1
        have HU1 := Lib.hid hU1
        clear hE1 hV1 hU1 HFIT HC5
        go_upto_region 11 with (go_at_call 15; (with_reducible refine HC6.out.mono ?_); rintro e' w6 ⟨sa, sc, rfl, ho6, hb6, h6⟩
                                rw [← HDM.out] at ho6
                                obtain ⟨cs6, k1, k2, k3⟩ := H5.out.row pcell_law nobody_law hb6 ho6
                                rw [HDM.out] at k3
                                have k4 := k1.push pcell_law nobody_law (msgO 2 0 1 E1 V1 U1 sa dm sc)
                                have K6 := Lib.hid k4
                                have K7 : Hid (RowK ((w6.heap.size, msgO 2 0 1 E1 V1 U1 sa dm sc) :: cs6) (.slice sa dm sc) D2.l) := Lib.hid (k3.more fun y hy => List.mem_cons_of_mem _ hy)
                                have K8 : Hid (∀ y ∈ cs, y ∈ (w6.heap.size, msgO 2 0 1 E1 V1 U1 sa dm sc) :: cs6) := Lib.hid fun y hy => List.mem_cons_of_mem _ (k2 y hy)
                                clear ho6 hb6 h6 k1 k2 k3 k4)
        obtain ⟨W6, hW6⟩ : ∃ W, w6.alloc (msgO 2 0 1 E1 V1 U1 sa dm sc) = W := ⟨_, rfl⟩
        rw [hW6] at K6 ⊢
        obtain ⟨bs6, hbs6⟩ : ∃ l, (w6.heap.size, msgO 2 0 1 E1 V1 U1 sa dm sc) :: cs6 = l := ⟨_, rfl⟩
        have hm6 : (w6.heap.size, msgO 2 0 1 E1 V1 U1 sa dm sc) ∈ bs6 := by rw [← hbs6]; exact List.mem_cons_self ..
        rw [hbs6] at K6 K7 K8
        obtain ⟨G6, hG6⟩ : ∃ g, w6.heap.size = g := ⟨_, rfl⟩
        rw [hG6] at hm6 ⊢
        obtain ⟨y0, y1, y2, y3, y4, y5, y6, _, yl⟩ := msg_cells (K6.out.own hm6)
        obtain ⟨x0, x1', x2', x3', x4', x5', x6', _, xl⟩ := msg_cells (K6.out.own (K8.out _ (HS4.out _ HM3.out)))
        have HM6 := Lib.hid hm6
        clear hW6 hbs6 hG6 hm6 HC6
        have HRS : Hid (tk = true → E0 < E1 ∨ (E0 = E1 ∧ V0 < V1)) := Lib.hid fun h => by
          have h2 := HTK.out
          rw [h] at h2
          have h3 := took_rises h2
          rw [← recv_set h2, HD2.out, HE0.out, HE1.out, HV0.out, HV1.out] at h3
          exact h3
        have HSM : Hid (tk = false → D2 = D) := Lib.hid fun h => by
          have h2 := HTK.out
          rw [h] at h2
          rw [← HD2.out]
          exact recv_same h2
        rcases tk with _ | _
        · have hdd := HSM.out rfl
          have e1 : E1 = E0 := by rw [← HE1.out, ← HE0.out, hdd]
          have e2 : V1 = V0 := by rw [← HV1.out, ← HV0.out, hdd]
          have e3 : U1 = U0 := by rw [← HU1.out, ← HU0.out, hdd]
          have e4 : dm = dn := by rw [← HDM.out, ← HDN.out, hdd]
          subst e1 e2 e3 e4
          have HC9 : Hid (Calls Try.prog 14 #[msgV 2 0 1 E1 V1 U1 ra dm rc, msgV 2 0 1 E1 V1 U1 sa dm sc] W6 fun x w' => x = .returned (.bool true) ∧ Below W6.heap.size W6 w') := Lib.hid ((same16_any 2 0 1 E1 V1 U1 2 0 1 E1 V1 U1 ra sa dm rc dm sc D.l D2.l W6 (by omega) ((K3.out.more fun y hy => K8.out _ (HS4.out _ hy)).now K6.out) (K7.out.now K6.out)).mono fun x w' ⟨h1, h2⟩ => ⟨h1.trans (by rw [hdd]; simp), h2⟩)
          clear hdd HRS HSM
          go_wp2_with (go_at_call 14; (with_reducible refine HC9.out.mono ?_); rintro e' w9 ⟨rfl, hb9⟩; have H9 := Lib.hid (K6.out.below pcell_law nobody_law hb9); obtain ⟨z0, z1, z2, z3, z4, z5, z6, _, zl⟩ := msg_cells (H9.out.own HM6.out); clear hb9)
          go_roundw
          case rel => exact ⟨i + 1, bs6, HU.out.1, HU.out.2, by go_num, by rw [HN.out]; exact H9.out⟩
          case measure => simp [intOf]; omega
        · rcases HRS.out rfl with hr | ⟨hr, hr'⟩
          · have f1 : decide (E0 < E1) = true := decide_eq_true hr
            clear hr HRS HSM
            go_wp2
            go_roundw
            case rel => exact ⟨i + 1, bs6, HU.out.1, HU.out.2, by go_num, by rw [HN.out]; exact K6.out⟩
            case measure => simp [intOf]; omega
          · subst hr
            have f1 : decide (V0 < V1) = true := decide_eq_true hr'
            clear hr' HRS HSM
            go_wp2
            go_roundw
            case rel => exact ⟨i + 1, bs6, HU.out.1, HU.out.2, by go_num, by rw [HN.out]; exact K6.out⟩
            case measure => simp [intOf]; omega
      · have h40' : ¬ (i : Int) < 80 := by omega
        have hii : (i : Int) < (len : Int) := by omega
        clear hkp2
        go_wp2
        go_ret
        exact ⟨rfl, HH.out.to⟩
    · have hii : ¬ (i : Int) < (len : Int) := by omega
      clear hkp2
      go_wp2
      go_ret
      exact ⟨rfl, HH.out.to⟩
theorem own : ownKnob Try.prog.godebug = none := by kernel_rfl
theorem laidOut : laidOutB Try.prog = true := by kernel_rfl

set_option maxRecDepth 100000 in
theorem lifted (os : Os) (started : os.Started) (H : Type) (enc : TypeId × Value → H) :
    ReturnsInHanded {} Try.checked os 4 .any (Rows.cellRisesSpec.pre6 enc Try.prog Try.f4 Rows.cellRisesRow.domain false) (Rows.cellRisesSpec.post enc Try.prog Try.f4 false true false false) := by
  refine returnsInHanded_of_change_sized (C := Try.checked) own started (by kernel_rfl) Try.func4
    (ChangeSpec.witness6 (enc := enc) (C := Try.checked) false ⟨#[], #[.slice none 0 0], []⟩ 8 (by kernel_rfl) (by kernel_rfl) (by kernel_rfl) (by kernel_rfl)) ?_
  intro W base args ds gs before hval0 hW _ hsz0 _
  have hsz : (DataW.weightsEach Try.prog (Try.f4.params.toList ++ Rows.cellRisesSpec.plain.varTypes Try.prog) (ds ++ gs)).all (· ≤ reachBytes) = true := hsz0
  have hval : ∀ (j : Nat) t v, Try.f4.params[j]? = some t → args[j]? = some v → Value.okWide Try.prog W .any base t v := hval0
  have hW' := hW
  obtain ⟨p, q, hA0, hV, rfl, hfz, hnd⟩ := hW
  have hA : DataW.TrodAll enc Try.prog W 0 (fun _ => true) true Try.f4.params.toList args.toList ds p := hA0
  rw [Try.params4] at hA hval hsz
  obtain ⟨v0, vs0, d0, ds0, p0, q0, hargs, rfl, rfl, h0, r0⟩ := trodAll_cons hA
  obtain ⟨rfl, rfl, rfl⟩ := trodAll_nil r0
  obtain rfl : args = #[v0] := by cases args; simp_all
  obtain ⟨rfl, rfl⟩ := trodVars_none hV
  have k0 := h0
  have lt0 : ∀ x ∈ p0, x.block < W.heap.size := by obtain ⟨m, hm⟩ := k0; exact DataW.trod_lt m _ _ _ hm
  obtain ⟨a0, len0, cap0, rfl⟩ := okWide_slice Try.underlying23 (hval 0 23 v0 rfl rfl)
  obtain ⟨z0, b0⟩ := grants_of k0 (weights_at hsz (j := 0) (t := 23) rfl rfl)
  clear hA0 hval0 hsz0 hsz
  refine (walk a0 len0 cap0 z0 W b0).mono fun e W' ⟨he, bel⟩ => ?_
  subst he
  exact ⟨_, rfl, _, _, _, [], _, [], hW', trodAll_mk1 (shut_bool Try.underlying4 _), (trodAll_cons_mk (Below.trod laidOut (by kernel_rfl) (of_decide_eq_true (by kernel_rfl)) k0 bel lt0) trodAll_mk0), rfl, bel.frame _, fun h => by cases h⟩

theorem over : Rows.cellRisesRow.holds Try.pinned (OpenSpec.ofChange Rows.cellRisesSpec) :=
  OpenClaim.holds_of_wide 4 Try.f4 rfl rfl rfl rfl rfl rfl rfl ⟨rfl, rfl, rfl, rfl, rfl⟩ rfl rfl rfl rfl rfl (by kernel_rfl) Try.func4 (by kernel_rfl)
    (of_decide_eq_true (by kernel_rfl)) (by unfold Func.isWrapper; first | (rw [if_pos (by decide +kernel)]; kernel_rfl) | (rw [if_neg (by decide +kernel)]; exact ⟨rfl, rfl⟩))
    (fun os started H enc _ => lifted os started H enc)

theorem proved : Rows.CellRisesSaid := over
end Go.Proofs.Ytbbogkmibiealaa.lawCRises
