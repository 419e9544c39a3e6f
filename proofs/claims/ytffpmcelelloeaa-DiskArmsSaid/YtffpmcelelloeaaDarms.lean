/-
  The statement DiskArms is proved for every list of texts and every number: the power goes off at the act that was told, which is not done, and nothing is done until it is on again. No condition.
-/
import Derived.Test.YtffpmcelelloeaaAwake10
import Derived.Test.YtffpmcelelloeaaDarmsn
import Derived.Test.YtffpmcelelloeaaOpen10
import Derived.Test.YtffpmcelelloeaaRows
namespace Go.Proofs.Ytffpmcelelloeaa.lawDarms
open Go.ChangeShapes Go.WideShapes Go.ChangeAt Go.RowKit Gm
open Go.ChangeMaps (open_string shut_string)

set_option maxRecDepth 100000 in
set_option maxHeartbeats 4000000 in
theorem walk (a : Option Addr) (len cap : Nat) (ts : List Bs) (n : Int) (w : World) (h0 : TextsAt w.heap.size w a len ts) (hn : I64 n) :
    Calls Try.prog 6 #[.slice a len cap, .int .i64 n] w fun e w' => e = .returned (.bool true) ∧ Below w.heap.size w w' := by
  have HT := Lib.hid h0
  have hlen := h0.2.1
  have HL := Lib.hid h0.1
  have hp := pk_bd n 40 (by omega)
  obtain ⟨M, hM⟩ : ∃ M : Nat, pk n 40 = M := ⟨(pk n 40).toNat, by omega⟩
  rw [hM] at hp
  have hM40 : M < 40 := by omega
  have HM := Lib.hid hM
  have HN := Lib.hid hn
  have H0 := Lib.hid (Held.start w)
  clear hM hn h0 hp
  go_enter Try.func6, Try.ntmps6
  go_wp2_with (go_at_call 9; refine (awake_any _).mono ?_; rintro e w1 ⟨rfl, hb1⟩; have h1 := H0.out.below nobody_law nobody_law hb1)
  go_wp2_with (go_at_call 10; refine (h1.pNew nobody_law).mono ?_; rintro e w2 ⟨p, rfl, h2⟩)
  go_wp2_with (go_at_call 13; (with_reducible refine (pick_any _ _ _ HN.out (by omega) (by omega)).mono ?_); rw [HM.out]; rintro e w13 ⟨rfl, rfl⟩)
  go_wp2_with (go_at_call 22; (have hc := h2.pArm nobody_law (1 + (M : Int)) (by decide) (by unfold I64; omega); rw [show (1 + (M : Int)) = ((M + 1 : Nat) : Int) by omega, arm_start (by omega) (by omega), show ((M + 1 : Nat) : Int) = 1 + (M : Int) by omega] at hc; with_reducible refine hc.mono ?_); rintro e w3 ⟨rfl, h3⟩)
  have HH := Lib.hid h3
  clear h1 h2 h3 hb1
  obtain ⟨n1, hn1⟩ : ∃ n1 : Int, 1 + (M : Int) = n1 := ⟨_, rfl⟩
  rw [hn1]
  have HN1 := Lib.hid hn1
  have hn1b : 1 ≤ n1 ∧ n1 ≤ 40 := by omega
  clear hn1
  go_loopw [7, 8, 9] (fun sv dv iv wr => ∃ i D sure, i ≤ len ∧ i ≤ 60 ∧ sv = .string (S sure) ∧ dv = .int .i64 ((2 * i : Nat) : Int) ∧ iv = .int .i64 (i : Int) ∧ ArmSt (M + 1) i D sure ∧ Held PDisk Nobody w wr p D 0 newD []) (fun _ _ iv _ => len - (intOf iv).toNat)
  case atStart => exact ⟨0, _, [], Nat.zero_le _, by omega, rfl, rfl, rfl, ArmSt.start (by omega), HH.out⟩
  case round =>
    obtain ⟨i, D, sure, hi, hi60, rfl, rfl, rfl, hst, hh⟩ := hrel
    have hss := hst.1
    have HST := Lib.hid hst
    have HHH := Lib.hid hh
    clear hst hh
    by_cases hlt : i < len ∧ i < 60
    · obtain ⟨hl1, hl2⟩ := hlt
      obtain ⟨_, _, b, off, ha, hc⟩ := HT.out.below HHH.out.to
      have hil : i < ts.length := by rw [HL.out]; exact hl1
      obtain ⟨hb, htl, c0⟩ := hc i hil
      obtain rfl : a = some ⟨b, off, none⟩ := by
        rcases ha with h | h
        · omega
        · exact h
      obtain ⟨t0, ht0⟩ : ∃ t, ts[i] = t := ⟨_, rfl⟩
      rw [ht0] at htl c0
      obtain ⟨kx, mx, cx⟩ := cut_500 t0
      obtain ⟨t, htt⟩ : ∃ t, t0.take 500 = t := ⟨_, rfl⟩
      rw [htt] at cx
      have ht : t.length ≤ 500 := by rw [← htt, List.length_take]; omega
      have st0 := S_size t0
      have hi0 : (0 : Int) ≤ (i : Int) := by omega
      have hi1 : (i : Int) < (len : Int) := by omega
      have hi2 : (i : Int) < 60 := by omega
      have hb' : b < wr.heap.size := Nat.lt_of_lt_of_le hb HHH.out.size
      have hz := HHH.out.size
      clear ha hc ht0 htt hil
      go_wp2
      go_quiet (fail)
      have hD := HHH.out.below pdisk_law nobody_law (below_dn (Below.refl wr.heap.size wr) nq)
      obtain ⟨wq, hwq⟩ : ∃ W, wr.drewN nq = W := ⟨_, rfl⟩
      rw [hwq] at hD ⊢
      have HD := Lib.hid hD
      have hac := HST.out.acts hi60 t
      have hstep := HST.out.step hl2 ht
      obtain ⟨D1, hD1⟩ : ∃ X, appendD D [97] t = X := ⟨_, rfl⟩
      obtain ⟨d1, e1⟩ := D1
      rw [hD1] at hac hstep
      dsimp only at hac hstep
      obtain ⟨D2, hD2⟩ : ∃ X, syncD d1 [97] = X := ⟨_, rfl⟩
      obtain ⟨d2, f1⟩ := D2
      rw [hD2] at hstep
      dsimp only at hstep
      have HD1 := Lib.hid hD1
      have HD2 := Lib.hid hD2
      have HAC := Lib.hid hac
      have HSTEP := Lib.hid hstep
      clear hD1 hD2 hac hstep hD hwq c0 mx cx st0 hb'
      obtain ⟨dn, hdn⟩ : ∃ dn : Int, ((2 * i : Nat) : Int) = dn := ⟨_, rfl⟩
      rw [hdn]
      have hdb : 0 ≤ dn ∧ dn ≤ 120 := by omega
      have hn1 := HN1.out
      have HDN := Lib.hid hdn
      rcases HSTEP.out with ⟨hx, rfl, rfl, ho, hs⟩ | ⟨hx, hy, rfl, rfl, ho, hs⟩ | ⟨hx, rfl, rfl, ho, hs⟩
      · have cA : dn + 2 - 1 < n1 := by omega
        have cB : dn + 2 < n1 := by omega
        have HS := Lib.hid hs
        have sa := S_app sure t
        have s1 := S_size sure
        have s2 := S_size t
        have nb : ¬ 9223372036854775807 < sure.length + t.length := by omega
        clear hn1 hdn hs hx
        go_wp2_with (go_at_call 14; (have hc := HD.out.pAppend nobody_law [97] t HAC.out.1 (by decide) (by omega); rw [e97, HD1.out] at hc; with_reducible refine hc.mono ?_); rintro e w4 ⟨rfl, h4⟩)
        go_wp2_with (go_at_call 16; (have hc := h4.pSync nobody_law [97] HAC.out.2 (by decide); rw [e97, HD2.out] at hc; with_reducible refine hc.mono ?_); rintro e w5 ⟨rfl, h5⟩)
        go_wp2_with (go_at_call 31; (have hc := h5.pOff nobody_law; rw [ho] at hc; with_reducible refine hc.mono ?_); rintro e w6 ⟨rfl, _, h6⟩)
        have H6 := Lib.hid h6
        clear h4 h5 h6
        go_roundw
        case rel => exact ⟨i + 1, d2, sure ++ t, by omega, by omega, rfl, by have := HDN.out; go_num, by go_num, HS.out, H6.out⟩
        case measure => simp [intOf]; omega
      · have cA : dn + 2 - 1 < n1 := by omega
        have cB : ¬ dn + 2 < n1 := by omega
        have HS := Lib.hid hs
        clear hn1 hdn hs hx hy
        go_wp2_with (go_at_call 14; (have hc := HD.out.pAppend nobody_law [97] t HAC.out.1 (by decide) (by omega); rw [e97, HD1.out] at hc; with_reducible refine hc.mono ?_); rintro e w4 ⟨rfl, h4⟩)
        go_wp2_with (go_at_call 16; (have hc := h4.pSync nobody_law [97] HAC.out.2 (by decide); rw [e97, HD2.out] at hc; with_reducible refine hc.mono ?_); rintro e w5 ⟨rfl, h5⟩)
        go_wp2_with (go_at_call 31; (have hc := h5.pOff nobody_law; rw [ho] at hc; with_reducible refine hc.mono ?_); rintro e w6 ⟨rfl, _, h6⟩)
        have H6 := Lib.hid h6
        clear h4 h5 h6
        go_roundw
        case rel => exact ⟨i + 1, d2, sure, by omega, by omega, rfl, by have := HDN.out; go_num, by go_num, HS.out, H6.out⟩
        case measure => simp [intOf]; omega
      · have cA : ¬ dn + 2 - 1 < n1 := by omega
        have cB : ¬ dn + 2 < n1 := by omega
        have HS := Lib.hid hs
        clear hn1 hdn hs hx
        go_wp2_with (go_at_call 14; (have hc := HD.out.pAppend nobody_law [97] t HAC.out.1 (by decide) (by omega); rw [e97, HD1.out] at hc; with_reducible refine hc.mono ?_); rintro e w4 ⟨rfl, h4⟩)
        go_wp2_with (go_at_call 16; (have hc := h4.pSync nobody_law [97] HAC.out.2 (by decide); rw [e97, HD2.out] at hc; with_reducible refine hc.mono ?_); rintro e w5 ⟨rfl, h5⟩)
        go_wp2_with (go_at_call 31; (have hc := h5.pOff nobody_law; rw [ho] at hc; with_reducible refine hc.mono ?_); rintro e w6 ⟨rfl, _, h6⟩)
        have H6 := Lib.hid h6
        clear h4 h5 h6
        go_roundw
        case rel => exact ⟨i + 1, d2, sure, by omega, by omega, rfl, by have := HDN.out; go_num, by go_num, HS.out, H6.out⟩
        case measure => simp [intOf]; omega
    · have hcc : (¬ (i : Int) < (len : Int)) ∨ ((i : Int) < (len : Int) ∧ ¬ (i : Int) < 60) := by omega
      have hE := HST.out.ends
      have hof : (restartD D []).off = false := rfl
      clear hlt hss
      rcases hE with hr | ⟨hr, rfl⟩
      · have s1 := S_toList sure
        rcases hcc with hcc | ⟨hc1, hcc⟩
        · go_wp2_with (go_at_call 24; (have hc := HHH.out.pRestart0 nobody_law 0; with_reducible refine hc.mono ?_); rintro e w4 ⟨rfl, h4⟩)
          go_wp2_with (go_at_call 26; (have hc := h4.pRead nobody_law [97] (by decide); rw [e97, hr] at hc; with_reducible refine hc.mono ?_); rintro e w5 ⟨rfl, _, h5⟩)
          go_wp2_with (go_at_call 31; (have hc := h5.pOff nobody_law; rw [hof] at hc; with_reducible refine hc.mono ?_); rintro e w6 ⟨rfl, _, h6⟩)
          go_ret
          exact ⟨rfl, h6.to⟩
        · go_wp2_with (go_at_call 24; (have hc := HHH.out.pRestart0 nobody_law 0; with_reducible refine hc.mono ?_); rintro e w4 ⟨rfl, h4⟩)
          go_wp2_with (go_at_call 26; (have hc := h4.pRead nobody_law [97] (by decide); rw [e97, hr] at hc; with_reducible refine hc.mono ?_); rintro e w5 ⟨rfl, _, h5⟩)
          go_wp2_with (go_at_call 31; (have hc := h5.pOff nobody_law; rw [hof] at hc; with_reducible refine hc.mono ?_); rintro e w6 ⟨rfl, _, h6⟩)
          go_ret
          exact ⟨rfl, h6.to⟩
      · have s1 := S_toList []
        rcases hcc with hcc | ⟨hc1, hcc⟩
        · go_wp2_with (go_at_call 24; (have hc := HHH.out.pRestart0 nobody_law 0; with_reducible refine hc.mono ?_); rintro e w4 ⟨rfl, h4⟩)
          go_wp2_with (go_at_call 26; (have hc := h4.pRead nobody_law [97] (by decide); rw [e97, hr] at hc; with_reducible refine hc.mono ?_); rintro e w5 ⟨rfl, _, h5⟩)
          go_wp2_with (go_at_call 31; (have hc := h5.pOff nobody_law; rw [hof] at hc; with_reducible refine hc.mono ?_); rintro e w6 ⟨rfl, _, h6⟩)
          go_ret
          exact ⟨rfl, h6.to⟩
        · go_wp2_with (go_at_call 24; (have hc := HHH.out.pRestart0 nobody_law 0; with_reducible refine hc.mono ?_); rintro e w4 ⟨rfl, h4⟩)
          go_wp2_with (go_at_call 26; (have hc := h4.pRead nobody_law [97] (by decide); rw [e97, hr] at hc; with_reducible refine hc.mono ?_); rintro e w5 ⟨rfl, _, h5⟩)
          go_wp2_with (go_at_call 31; (have hc := h5.pOff nobody_law; rw [hof] at hc; with_reducible refine hc.mono ?_); rintro e w6 ⟨rfl, _, h6⟩)
          go_ret
          exact ⟨rfl, h6.to⟩
theorem own : ownKnob Try.prog.godebug = none := by kernel_rfl
theorem laidOut : laidOutB Try.prog = true := by kernel_rfl

set_option maxRecDepth 100000 in
theorem lifted (os : Os) (started : os.Started) (H : Type) (enc : TypeId × Value → H) :
    ReturnsInHanded {} Try.checked os 6 .any (Rows.diskArmsSpec.pre6 enc Try.prog Try.f6 Rows.diskArmsRow.domain false) (Rows.diskArmsSpec.post enc Try.prog Try.f6 false true false false) := by
  refine returnsInHanded_of_change_sized (C := Try.checked) own started (by kernel_rfl) Try.func6
    (ChangeSpec.witness6 (enc := enc) (C := Try.checked) false ⟨#[], #[.slice none 0 0, .int .i64 0], []⟩ 8 (by kernel_rfl) (by kernel_rfl) (by kernel_rfl) (by kernel_rfl)) ?_
  intro W base args ds gs before hval0 hW _ hsz0 _
  have hsz : (DataW.weightsEach Try.prog (Try.f6.params.toList ++ Rows.diskArmsSpec.plain.varTypes Try.prog) (ds ++ gs)).all (· ≤ reachBytes) = true := hsz0
  have hval : ∀ (j : Nat) t v, Try.f6.params[j]? = some t → args[j]? = some v → Value.okWide Try.prog W .any base t v := hval0
  have hW' := hW
  obtain ⟨p, q, hA0, hV, rfl, hfz, hnd⟩ := hW
  have hA : DataW.TrodAll enc Try.prog W 0 (fun _ => true) true Try.f6.params.toList args.toList ds p := hA0
  rw [Try.params6] at hA hval hsz
  obtain ⟨v0, vs0, d0, ds0, p0, q0, hargs, rfl, rfl, h0, r0⟩ := trodAll_cons hA
  obtain ⟨v1, vs1, d1, ds1, p1, q1, rfl, rfl, rfl, h1, r1⟩ := trodAll_cons r0
  obtain ⟨rfl, rfl, rfl⟩ := trodAll_nil r1
  obtain rfl : args = #[v0, v1] := by cases args; simp_all
  obtain ⟨rfl, rfl⟩ := trodVars_none hV
  have k0 := h0
  have lt0 : ∀ x ∈ p0, x.block < W.heap.size := by obtain ⟨m, hm⟩ := k0; exact DataW.trod_lt m _ _ _ hm
  have k1 := h1
  have lt1 : ∀ x ∈ p1, x.block < W.heap.size := by obtain ⟨m, hm⟩ := k1; exact DataW.trod_lt m _ _ _ hm
  obtain ⟨a0, len0, cap0, rfl⟩ := okWide_slice Try.underlying41 (hval 0 41 v0 rfl rfl)
  obtain ⟨z0, b0⟩ := texts_of k0 (weights_at hsz (j := 0) (t := 41) rfl rfl)
  obtain ⟨a1, rfl, rfl, rfl, w1⟩ := open_int Try.underlying3 (hval 1 3 v1 rfl rfl) h1
  have b1 := in_of_wf w1
  clear hA0 hval0 hsz0 hsz
  refine (walk a0 len0 cap0 z0 a1 W b0 b1).mono fun e W' ⟨he, bel⟩ => ?_
  subst he
  exact ⟨_, rfl, _, _, _, [], _, [], hW', trodAll_mk1 (shut_bool Try.underlying4 _), (trodAll_cons_mk (Below.trod laidOut (by kernel_rfl) (of_decide_eq_true (by kernel_rfl)) k0 bel lt0) (trodAll_cons_mk (Below.trod laidOut (by kernel_rfl) (of_decide_eq_true (by kernel_rfl)) k1 bel lt1) trodAll_mk0)), rfl, bel.frame _, fun h => by cases h⟩

theorem over : Rows.diskArmsRow.holds Try.pinned (OpenSpec.ofChange Rows.diskArmsSpec) :=
  OpenClaim.holds_of_wide 6 Try.f6 rfl rfl rfl rfl rfl rfl rfl ⟨rfl, rfl, rfl, rfl, rfl⟩ rfl rfl rfl rfl rfl (by kernel_rfl) Try.func6 (by kernel_rfl)
    (of_decide_eq_true (by kernel_rfl)) (by unfold Func.isWrapper; first | (rw [if_pos (by decide +kernel)]; kernel_rfl) | (rw [if_neg (by decide +kernel)]; exact ⟨rfl, rfl⟩))
    (fun os started H enc _ => lifted os started H enc)

theorem proved : Rows.DiskArmsSaid := over
end Go.Proofs.Ytffpmcelelloeaa.lawDarms
