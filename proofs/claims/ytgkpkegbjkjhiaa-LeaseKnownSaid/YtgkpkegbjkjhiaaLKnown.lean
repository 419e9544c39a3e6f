/-
  The statement LeaseKnown is proved for every seven numbers: where a book is known by Pass, no lease of before holds by any clock; and that comes to pass. No condition.
-/
import Derived.Test.YtgkpkegbjkjhiaaLcalls
import Derived.Test.YtgkpkegbjkjhiaaOpen14
import Derived.Test.YtgkpkegbjkjhiaaRows
namespace Go.Proofs.Ytgkpkegbjkjhiaa.lawLKnown
open Go.ChangeShapes Go.WideShapes Go.ChangeAt Go.RowKit Gm

theorem when_id {t : Int} (h : -1099511627776 ≤ t ∧ t ≤ 1099511627776) : whenN t = t := by unfold whenN; omega

set_option maxRecDepth 100000 in
set_option maxHeartbeats 4000000 in
theorem walk (began one before two later three four : Int) (w : World) (h0 : I64 began) (h1 : I64 one) (h2 : I64 before) (h3 : I64 two) (h4 : I64 later) (h5 : I64 three) (h6 : I64 four) :
    Calls Try.prog 5 #[.int .i64 began, .int .i64 one, .int .i64 before, .int .i64 two, .int .i64 later, .int .i64 three, .int .i64 four] w fun e w' => e = .returned (.bool true) ∧ Below w.heap.size w w' := by
  have T1 := fun w => time_any began w h0
  have S1 := fun w => skew_any one w h1
  have S2 := fun w => skew_any two w h3
  have S3 := fun w => skew_any three w h5
  have S4 := fun w => skew_any four w h6
  have P1 := fun w => pick_any before 100 w h2 (by omega) (by omega)
  have P2 := fun w => pick_any later 60 w h4 (by omega) (by omega)
  have bt := time_bd began
  have b1 := skew_bd one
  have b2 := skew_bd two
  have b3 := skew_bd three
  have b4 := skew_bd four
  have bq := pk_bd before 100 (by omega)
  have bk := pk_bd later 60 (by omega)
  obtain ⟨t, et⟩ : ∃ x, timeN began = x := ⟨_, rfl⟩
  obtain ⟨s1, e1⟩ : ∃ x, skewN one = x := ⟨_, rfl⟩
  obtain ⟨s2, e2⟩ : ∃ x, skewN two = x := ⟨_, rfl⟩
  obtain ⟨s3, e3⟩ : ∃ x, skewN three = x := ⟨_, rfl⟩
  obtain ⟨s4, e4⟩ : ∃ x, skewN four = x := ⟨_, rfl⟩
  obtain ⟨q, eq⟩ : ∃ x, pk before 100 = x := ⟨_, rfl⟩
  obtain ⟨k, ek⟩ : ∃ x, pk later 60 = x := ⟨_, rfl⟩
  rw [et] at T1 bt
  rw [e1] at S1 b1
  rw [e2] at S2 b2
  rw [e3] at S3 b3
  rw [e4] at S4 b4
  rw [eq] at P1 bq
  rw [ek] at P2 bk
  have eu : untilN (t - q + s2) = t - q + s2 + 20 := by unfold untilN; rw [when_id (by omega)]
  obtain ⟨u, hu⟩ : ∃ u, t - q + s2 + 20 = u := ⟨_, rfl⟩
  rw [hu] at eu
  have en : newB (t + s1) = ⟨true, t + s1 + 24, []⟩ := by unfold newB untilN; rw [when_id (by omega)]; congr 1; omega
  have okn := OkB.new (t + s1)
  rw [en] at okn
  have hover : overN (t + k + s3) (t + s1 + 24) = decide (t + s1 + 24 + 4 ≤ t + k + s3) := by unfold overN; rw [when_id (by omega), when_id (by omega)]
  obtain ⟨x, kx⟩ : ∃ x, overN (t + k + s3) (t + s1 + 24) = x := ⟨_, rfl⟩
  have ep : passB ⟨true, t + s1 + 24, []⟩ (t + k + s3) = ⟨!x, t + s1 + 24, []⟩ := by unfold passB; rw [kx]; rfl
  have HG : Hid (I64 (t + s1)) := Lib.hid (by unfold I64; omega)
  have HT : Hid (I64 (t - q + s2)) := Lib.hid (by unfold I64; omega)
  have HU : Hid (I64 (t + k + s3)) := Lib.hid (by unfold I64; omega)
  have HV : Hid (I64 (t + k + s4)) := Lib.hid (by unfold I64; omega)
  have HI : Hid (I64 u) := Lib.hid (by unfold I64; omega)
  have hholds : holdsN (t + k + s4) u = decide (t + k + s4 < u) := by unfold holdsN; rw [when_id (by omega), when_id (by omega)]
  have hnum : (-1000 ≤ t ∧ t ≤ 1000) ∧ (-2 ≤ s1 ∧ s1 ≤ 2) ∧ (-2 ≤ s2 ∧ s2 ≤ 2) ∧ (-2 ≤ s3 ∧ s3 ≤ 2) ∧ (-2 ≤ s4 ∧ s4 ≤ 2) ∧ (0 ≤ k ∧ k < 60) ∧ (0 ≤ q ∧ q < 100) := ⟨bt, b1, b2, b3, b4, bk, bq⟩
  obtain ⟨y, hy⟩ : ∃ y, decide (k < 34) = y := ⟨_, rfl⟩
  rw [hover] at kx
  have HNO : Hid (x = true → holdsN (t + k + s4) u = false) := Lib.hid (by
    rw [hholds, decide_eq_false_iff_not]
    intro e; subst e; rw [decide_eq_true_eq] at kx; omega)
  have HXY : Hid ((x || y) = true) := Lib.hid (by
    rcases x with _ | _
    · rw [decide_eq_false_iff_not] at kx
      rw [← hy, Bool.false_or, decide_eq_true_eq]; omega
    · rfl)
  have EU := Lib.hid eu
  have EN := Lib.hid en
  have EP := Lib.hid ep
  have OKN := Lib.hid okn
  have TT1 := Lib.hid T1
  have SS1 := Lib.hid S1
  have SS2 := Lib.hid S2
  have SS3 := Lib.hid S3
  have SS4 := Lib.hid S4
  have PP1 := Lib.hid P1
  have PP2 := Lib.hid P2
  have h0' := Held.start w (default : Bk) (default : Bk)
  have H0 := Lib.hid h0'
  clear et e1 e2 e3 e4 eq ek eu hu hover hholds kx h0 h1 h2 h3 h4 h5 h6 T1 S1 S2 S3 S4 P1 P2 bt b1 b2 b3 b4 bq bk en ep okn h0'
  go_enter Try.func5, Try.ntmps5
  go_wp2_with (go_at_call 9; refine (awake_any _).mono ?_; rintro e w1 ⟨rfl, hB⟩; have h1 := H0.out.below nobody_law nobody_law hB)
  go_wp2_with (first
    | (go_at_call 32; (with_reducible refine (TT1.out _).mono ?_); rintro e w2 ⟨rfl, rfl⟩)
    | (go_at_call 33; (with_reducible refine (SS1.out _).mono ?_); rintro e w2 ⟨rfl, rfl⟩))
  go_wp2_with (go_at_call 10; (have hc := h1.pNew nobody_law (t + s1) HG.out; rw [EN.out] at hc; with_reducible refine hc.mono ?_); rintro e w2 ⟨p, rfl, h2⟩)
  go_wp2_with (first
    | (go_at_call 33; (with_reducible refine (SS2.out _).mono ?_); rintro e w3 ⟨rfl, rfl⟩)
    | (go_at_call 19; (with_reducible refine (PP1.out _).mono ?_); rintro e w3 ⟨rfl, rfl⟩))
  go_wp2_with (go_at_call 12; (have hc := h2.pUntil pbook_law nobody_law (t - q + s2) HT.out; rw [EU.out] at hc; with_reducible refine hc.mono ?_); rintro e w3 ⟨rfl, _, h3⟩)
  go_wp2_with (first
    | (go_at_call 19; (with_reducible refine (PP2.out _).mono ?_); rintro e w4 ⟨rfl, rfl⟩)
    | (go_at_call 28; (with_reducible refine (h3.pKnown nobody_law).mono ?_); rintro e w4 ⟨rfl, _, h4⟩))
  go_wp2_with (first
    | (go_at_call 33; (with_reducible refine (SS3.out _).mono ?_); rintro e w5 ⟨rfl, rfl⟩)
    | (go_at_call 26; (have hc := h4.pPass nobody_law OKN.out (t + k + s3) HU.out; rw [EP.out] at hc; with_reducible refine hc.mono ?_); rintro e w5 ⟨rfl, h5⟩))
  rcases x with _ | _ <;> rcases y with _ | _
  all_goals first
    | (exfalso; first | exact HXY.out | exact absurd HXY.out (by decide))
    | skip
  all_goals
    go_wp2_with (go_at_call 28; (with_reducible refine (h5.pKnown nobody_law).mono ?_); rintro e w6 ⟨rfl, _, h6⟩)
  all_goals
    go_wp2_with (first
      | (go_at_call 33; (with_reducible refine (SS4.out _).mono ?_); rintro e w7 ⟨rfl, rfl⟩)
      | (go_at_call 14; (have hc := h6.pHolds pbook_law nobody_law (t + k + s4) u HV.out HI.out; rw [show holdsN (t + k + s4) u = false by first | exact HNO.out rfl | exact HNO.out trivial] at hc; with_reducible refine hc.mono ?_); rintro e w7 ⟨rfl, _, h7⟩))
  all_goals
    go_wp2_with (go_at_call 28; first
      | (with_reducible refine (h7.pKnown nobody_law).mono ?_; rintro e w8 ⟨rfl, _, h8⟩)
      | (with_reducible refine (h6.pKnown nobody_law).mono ?_; rintro e w8 ⟨rfl, _, h8⟩))
    go_ret
    first
      | exact ⟨rfl, h8.to⟩
      | exact ⟨rfl, h7.to⟩
      | exact ⟨rfl, h6.to⟩
theorem own : ownKnob Try.prog.godebug = none := by kernel_rfl
theorem laidOut : laidOutB Try.prog = true := by kernel_rfl

set_option maxRecDepth 100000 in
theorem lifted (os : Os) (started : os.Started) (H : Type) (enc : TypeId × Value → H) :
    ReturnsInHanded {} Try.checked os 5 .any (Rows.leaseKnownSpec.pre6 enc Try.prog Try.f5 Rows.leaseKnownRow.domain false) (Rows.leaseKnownSpec.post enc Try.prog Try.f5 false true false false) := by
  refine returnsInHanded_of_change_sized (C := Try.checked) own started (by kernel_rfl) Try.func5
    (ChangeSpec.witness6 (enc := enc) (C := Try.checked) false ⟨#[], #[.int .i64 0, .int .i64 0, .int .i64 0, .int .i64 0, .int .i64 0, .int .i64 0, .int .i64 0], []⟩ 8 (by kernel_rfl) (by kernel_rfl) (by kernel_rfl) (by kernel_rfl)) ?_
  intro W base args ds gs before hval0 hW _ hsz0 _
  have hsz : (DataW.weightsEach Try.prog (Try.f5.params.toList ++ Rows.leaseKnownSpec.plain.varTypes Try.prog) (ds ++ gs)).all (· ≤ reachBytes) = true := hsz0
  have hval : ∀ (j : Nat) t v, Try.f5.params[j]? = some t → args[j]? = some v → Value.okWide Try.prog W .any base t v := hval0
  have hW' := hW
  obtain ⟨p, q, hA0, hV, rfl, hfz, hnd⟩ := hW
  have hA : DataW.TrodAll enc Try.prog W 0 (fun _ => true) true Try.f5.params.toList args.toList ds p := hA0
  rw [Try.params5] at hA hval hsz
  obtain ⟨v0, vs0, d0, ds0, p0, q0, hargs, rfl, rfl, h0, r0⟩ := trodAll_cons hA
  obtain ⟨v1, vs1, d1, ds1, p1, q1, rfl, rfl, rfl, h1, r1⟩ := trodAll_cons r0
  obtain ⟨v2, vs2, d2, ds2, p2, q2, rfl, rfl, rfl, h2, r2⟩ := trodAll_cons r1
  obtain ⟨v3, vs3, d3, ds3, p3, q3, rfl, rfl, rfl, h3, r3⟩ := trodAll_cons r2
  obtain ⟨v4, vs4, d4, ds4, p4, q4, rfl, rfl, rfl, h4, r4⟩ := trodAll_cons r3
  obtain ⟨v5, vs5, d5, ds5, p5, q5, rfl, rfl, rfl, h5, r5⟩ := trodAll_cons r4
  obtain ⟨v6, vs6, d6, ds6, p6, q6, rfl, rfl, rfl, h6, r6⟩ := trodAll_cons r5
  obtain ⟨rfl, rfl, rfl⟩ := trodAll_nil r6
  obtain rfl : args = #[v0, v1, v2, v3, v4, v5, v6] := by cases args; simp_all
  obtain ⟨rfl, rfl⟩ := trodVars_none hV
  have k0 := h0
  have lt0 : ∀ x ∈ p0, x.block < W.heap.size := by obtain ⟨m, hm⟩ := k0; exact DataW.trod_lt m _ _ _ hm
  have k1 := h1
  have lt1 : ∀ x ∈ p1, x.block < W.heap.size := by obtain ⟨m, hm⟩ := k1; exact DataW.trod_lt m _ _ _ hm
  have k2 := h2
  have lt2 : ∀ x ∈ p2, x.block < W.heap.size := by obtain ⟨m, hm⟩ := k2; exact DataW.trod_lt m _ _ _ hm
  have k3 := h3
  have lt3 : ∀ x ∈ p3, x.block < W.heap.size := by obtain ⟨m, hm⟩ := k3; exact DataW.trod_lt m _ _ _ hm
  have k4 := h4
  have lt4 : ∀ x ∈ p4, x.block < W.heap.size := by obtain ⟨m, hm⟩ := k4; exact DataW.trod_lt m _ _ _ hm
  have k5 := h5
  have lt5 : ∀ x ∈ p5, x.block < W.heap.size := by obtain ⟨m, hm⟩ := k5; exact DataW.trod_lt m _ _ _ hm
  have k6 := h6
  have lt6 : ∀ x ∈ p6, x.block < W.heap.size := by obtain ⟨m, hm⟩ := k6; exact DataW.trod_lt m _ _ _ hm
  obtain ⟨a0, rfl, rfl, rfl, w0⟩ := open_int Try.underlying3 (hval 0 3 v0 rfl rfl) h0
  have b0 := in_of_wf w0
  obtain ⟨a1, rfl, rfl, rfl, w1⟩ := open_int Try.underlying3 (hval 1 3 v1 rfl rfl) h1
  have b1 := in_of_wf w1
  obtain ⟨a2, rfl, rfl, rfl, w2⟩ := open_int Try.underlying3 (hval 2 3 v2 rfl rfl) h2
  have b2 := in_of_wf w2
  obtain ⟨a3, rfl, rfl, rfl, w3⟩ := open_int Try.underlying3 (hval 3 3 v3 rfl rfl) h3
  have b3 := in_of_wf w3
  obtain ⟨a4, rfl, rfl, rfl, w4⟩ := open_int Try.underlying3 (hval 4 3 v4 rfl rfl) h4
  have b4 := in_of_wf w4
  obtain ⟨a5, rfl, rfl, rfl, w5⟩ := open_int Try.underlying3 (hval 5 3 v5 rfl rfl) h5
  have b5 := in_of_wf w5
  obtain ⟨a6, rfl, rfl, rfl, w6⟩ := open_int Try.underlying3 (hval 6 3 v6 rfl rfl) h6
  have b6 := in_of_wf w6
  clear hA0 hval0 hsz0 hsz
  refine (walk a0 a1 a2 a3 a4 a5 a6 W b0 b1 b2 b3 b4 b5 b6).mono fun e W' ⟨he, bel⟩ => ?_
  subst he
  exact ⟨_, rfl, _, _, _, [], _, [], hW', trodAll_mk1 (shut_bool Try.underlying4 _), (trodAll_cons_mk (Below.trod laidOut (by kernel_rfl) (of_decide_eq_true (by kernel_rfl)) k0 bel lt0) (trodAll_cons_mk (Below.trod laidOut (by kernel_rfl) (of_decide_eq_true (by kernel_rfl)) k1 bel lt1) (trodAll_cons_mk (Below.trod laidOut (by kernel_rfl) (of_decide_eq_true (by kernel_rfl)) k2 bel lt2) (trodAll_cons_mk (Below.trod laidOut (by kernel_rfl) (of_decide_eq_true (by kernel_rfl)) k3 bel lt3) (trodAll_cons_mk (Below.trod laidOut (by kernel_rfl) (of_decide_eq_true (by kernel_rfl)) k4 bel lt4) (trodAll_cons_mk (Below.trod laidOut (by kernel_rfl) (of_decide_eq_true (by kernel_rfl)) k5 bel lt5) (trodAll_cons_mk (Below.trod laidOut (by kernel_rfl) (of_decide_eq_true (by kernel_rfl)) k6 bel lt6) trodAll_mk0))))))), rfl, bel.frame _, fun h => by cases h⟩

theorem over : Rows.leaseKnownRow.holds Try.pinned (OpenSpec.ofChange Rows.leaseKnownSpec) :=
  OpenClaim.holds_of_wide 5 Try.f5 rfl rfl rfl rfl rfl rfl rfl ⟨rfl, rfl, rfl, rfl, rfl⟩ rfl rfl rfl rfl rfl (by kernel_rfl) Try.func5 (by kernel_rfl)
    (of_decide_eq_true (by kernel_rfl)) (by unfold Func.isWrapper; first | (rw [if_pos (by decide +kernel)]; kernel_rfl) | (rw [if_neg (by decide +kernel)]; exact ⟨rfl, rfl⟩))
    (fun os started H enc _ => lifted os started H enc)

theorem proved : Rows.LeaseKnownSaid := over
end Go.Proofs.Ytgkpkegbjkjhiaa.lawLKnown
