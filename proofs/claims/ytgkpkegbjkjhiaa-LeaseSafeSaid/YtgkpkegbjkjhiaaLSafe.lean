/-
  The statement LeaseSafe is proved for every six numbers: where a lease is over by any clock it holds by none, then or later; and 24 ticks behind its giving it holds by none. No condition.
-/
import Derived.Test.YtgkpkegbjkjhiaaLcalls
import Derived.Test.YtgkpkegbjkjhiaaOpen14
import Derived.Test.YtgkpkegbjkjhiaaRows
namespace Go.Proofs.Ytgkpkegbjkjhiaa.lawLSafe
open Go.ChangeShapes Go.WideShapes Go.ChangeAt Go.RowKit Gm

theorem when_id {t : Int} (h : -1099511627776 ≤ t ∧ t ≤ 1099511627776) : whenN t = t := by unfold whenN; omega

set_option maxRecDepth 100000 in
set_option maxHeartbeats 4000000 in
theorem walk (given one at_ two later three : Int) (w : World) (h0 : I64 given) (h1 : I64 one) (h2 : I64 at_) (h3 : I64 two) (h4 : I64 later) (h5 : I64 three) :
    Calls Try.prog 4 #[.int .i64 given, .int .i64 one, .int .i64 at_, .int .i64 two, .int .i64 later, .int .i64 three] w fun e w' => e = .returned (.bool true) ∧ Below w.heap.size w w' := by
  have T1 := fun w => time_any given w h0
  have T2 := fun w => time_any at_ w h2
  have S1 := fun w => skew_any one w h1
  have S2 := fun w => skew_any two w h3
  have S3 := fun w => skew_any three w h5
  have P1 := fun w => pick_any later 1000 w h4 (by omega) (by omega)
  have bg := time_bd given
  have bt := time_bd at_
  have b1 := skew_bd one
  have b2 := skew_bd two
  have b3 := skew_bd three
  have bk := pk_bd later 1000 (by omega)
  obtain ⟨g, eg⟩ : ∃ x, timeN given = x := ⟨_, rfl⟩
  obtain ⟨t, et⟩ : ∃ x, timeN at_ = x := ⟨_, rfl⟩
  obtain ⟨s1, e1⟩ : ∃ x, skewN one = x := ⟨_, rfl⟩
  obtain ⟨s2, e2⟩ : ∃ x, skewN two = x := ⟨_, rfl⟩
  obtain ⟨s3, e3⟩ : ∃ x, skewN three = x := ⟨_, rfl⟩
  obtain ⟨k, ek⟩ : ∃ x, pk later 1000 = x := ⟨_, rfl⟩
  rw [eg] at T1 bg
  rw [et] at T2 bt
  rw [e1] at S1 b1
  rw [e2] at S2 b2
  rw [e3] at S3 b3
  rw [ek] at P1 bk
  have eu : untilN (g + s1) = g + s1 + 20 := by unfold untilN; rw [when_id (by omega)]
  obtain ⟨u, hu⟩ : ∃ u, g + s1 + 20 = u := ⟨_, rfl⟩
  rw [hu] at eu
  have HG : Hid (I64 (g + s1)) := Lib.hid (by unfold I64; omega)
  have HT : Hid (I64 (t + s2)) := Lib.hid (by unfold I64; omega)
  have HU : Hid (I64 (t + k + s3)) := Lib.hid (by unfold I64; omega)
  have HI : Hid (I64 u) := Lib.hid (by unfold I64; omega)
  have EU := Lib.hid eu
  have hover : overN (t + s2) u = decide (u + 4 ≤ t + s2) := by unfold overN; rw [when_id (by omega), when_id (by omega)]
  have hholds : holdsN (t + k + s3) u = decide (t + k + s3 < u) := by unfold holdsN; rw [when_id (by omega), when_id (by omega)]
  have i1 : decide (g + 18 ≤ u) = true := decide_eq_true (by omega)
  have i2 : decide (u ≤ g + 22) = true := decide_eq_true (by omega)
  have hnum : (-1000 ≤ g ∧ g ≤ 1000) ∧ (-1000 ≤ t ∧ t ≤ 1000) ∧ (-2 ≤ s1 ∧ s1 ≤ 2) ∧ (-2 ≤ s2 ∧ s2 ≤ 2) ∧ (-2 ≤ s3 ∧ s3 ≤ 2) ∧ (0 ≤ k ∧ k < 1000) := ⟨bg, bt, b1, b2, b3, bk⟩
  obtain ⟨x1, k1⟩ : ∃ x, overN (t + s2) u = x := ⟨_, rfl⟩
  obtain ⟨y1, hy⟩ : ∃ y, decide (g + 24 ≤ t + k) = y := ⟨_, rfl⟩
  have HNO : Hid (x1 = true ∨ y1 = true → holdsN (t + k + s3) u = false) := Lib.hid (by
    rw [hholds, decide_eq_false_iff_not]
    rw [hover] at k1
    rintro (e | e)
    · subst e; rw [decide_eq_true_eq] at k1; omega
    · subst e; rw [decide_eq_true_eq] at hy; omega)
  have K1 := Lib.hid k1
  have TT1 := Lib.hid T1
  have TT2 := Lib.hid T2
  have SS1 := Lib.hid S1
  have SS2 := Lib.hid S2
  have SS3 := Lib.hid S3
  have PP1 := Lib.hid P1
  clear eg et e1 e2 e3 ek eu hu hover hholds k1 h0 h1 h2 h3 h4 h5 T1 T2 S1 S2 S3 P1 bg bt b1 b2 b3 bk
  go_enter Try.func4, Try.ntmps4
  go_wp2_with (go_at_call 9; refine (awake_any _).mono ?_; rintro e w1 ⟨rfl, hB⟩)
  go_wp2_with (first
    | (go_at_call 32; (with_reducible refine (TT1.out _).mono ?_); rintro e w2 ⟨rfl, rfl⟩)
    | (go_at_call 32; (with_reducible refine (TT2.out _).mono ?_); rintro e w2 ⟨rfl, rfl⟩)
    | (go_at_call 33; (with_reducible refine (SS1.out _).mono ?_); rintro e w2 ⟨rfl, rfl⟩)
    | (go_at_call 19; (with_reducible refine (PP1.out _).mono ?_); rintro e w2 ⟨rfl, rfl⟩)
    | (go_at_call 12; (with_reducible refine (until_is hB (g + s1) HG.out EU.out).mono ?_); rintro e w2 ⟨rfl, hB'⟩; replace hB := hB'; clear hB')
    | (go_at_call 33; (with_reducible refine (SS2.out _).mono ?_); rintro e w2 ⟨rfl, rfl⟩))
  have hBB := hB
  clear hB
  rcases x1 with _ | _ <;> rcases y1 with _ | _
  all_goals
    have hB := hBB
    clear hBB
    go_wp2_with (first
      | (go_at_call 16; (with_reducible refine (over_is hB (t + s2) u HT.out HI.out K1.out).mono ?_); rintro e w2 ⟨rfl, hB'⟩; replace hB := hB'; clear hB')
      | (go_at_call 33; (with_reducible refine (SS3.out _).mono ?_); rintro e w2 ⟨rfl, rfl⟩)
      | (go_at_call 14; (with_reducible refine (holds_is hB (t + k + s3) u HU.out HI.out (by first | exact HNO.out (.inl rfl) | exact HNO.out (.inr rfl) | exact HNO.out (.inl trivial) | exact HNO.out (.inr trivial) | exact HNO.out trivial)).mono ?_); rintro e w2 ⟨rfl, hB'⟩; replace hB := hB'; clear hB'))
    go_ret
    exact ⟨rfl, hB⟩
theorem own : ownKnob Try.prog.godebug = none := by kernel_rfl
theorem laidOut : laidOutB Try.prog = true := by kernel_rfl

set_option maxRecDepth 100000 in
theorem lifted (os : Os) (started : os.Started) (H : Type) (enc : TypeId × Value → H) :
    ReturnsInHanded {} Try.checked os 4 .any (Rows.leaseSafeSpec.pre6 enc Try.prog Try.f4 Rows.leaseSafeRow.domain false) (Rows.leaseSafeSpec.post enc Try.prog Try.f4 false true false false) := by
  refine returnsInHanded_of_change_sized (C := Try.checked) own started (by kernel_rfl) Try.func4
    (ChangeSpec.witness6 (enc := enc) (C := Try.checked) false ⟨#[], #[.int .i64 0, .int .i64 0, .int .i64 0, .int .i64 0, .int .i64 0, .int .i64 0], []⟩ 8 (by kernel_rfl) (by kernel_rfl) (by kernel_rfl) (by kernel_rfl)) ?_
  intro W base args ds gs before hval0 hW _ hsz0 _
  have hsz : (DataW.weightsEach Try.prog (Try.f4.params.toList ++ Rows.leaseSafeSpec.plain.varTypes Try.prog) (ds ++ gs)).all (· ≤ reachBytes) = true := hsz0
  have hval : ∀ (j : Nat) t v, Try.f4.params[j]? = some t → args[j]? = some v → Value.okWide Try.prog W .any base t v := hval0
  have hW' := hW
  obtain ⟨p, q, hA0, hV, rfl, hfz, hnd⟩ := hW
  have hA : DataW.TrodAll enc Try.prog W 0 (fun _ => true) true Try.f4.params.toList args.toList ds p := hA0
  rw [Try.params4] at hA hval hsz
  obtain ⟨v0, vs0, d0, ds0, p0, q0, hargs, rfl, rfl, h0, r0⟩ := trodAll_cons hA
  obtain ⟨v1, vs1, d1, ds1, p1, q1, rfl, rfl, rfl, h1, r1⟩ := trodAll_cons r0
  obtain ⟨v2, vs2, d2, ds2, p2, q2, rfl, rfl, rfl, h2, r2⟩ := trodAll_cons r1
  obtain ⟨v3, vs3, d3, ds3, p3, q3, rfl, rfl, rfl, h3, r3⟩ := trodAll_cons r2
  obtain ⟨v4, vs4, d4, ds4, p4, q4, rfl, rfl, rfl, h4, r4⟩ := trodAll_cons r3
  obtain ⟨v5, vs5, d5, ds5, p5, q5, rfl, rfl, rfl, h5, r5⟩ := trodAll_cons r4
  obtain ⟨rfl, rfl, rfl⟩ := trodAll_nil r5
  obtain rfl : args = #[v0, v1, v2, v3, v4, v5] := by cases args; simp_all
  obtain ⟨rfl, rfl⟩ := trodVars_none hV
  have k0 := h0
  have lt0 : ∀ x ∈ p0, x.block < W.heap.size := by obtain ⟨m, hm⟩ := k0; exact DataW.trod_lt m _ _ _ hm
  have k1 := h1
  have lt1 : ∀ x ∈ p1, x.block < W.heap.size := by obtain ⟨m, hm⟩ := k1; exact DataW.trod_lt m _ _ _ hm
  have k2 := h2
  have lt2 : ∀ x ∈ p2, x.block < W.heap.size := by obtain ⟨m, hm⟩ := k2; exact DataW.trod_lt m _ _ _ hm
  have k3 := h3
  have lt3 : ∀ x ∈ p3, x.block < W.heap.size := by obtain ⟨m, hm⟩ := k3; exact DataW.trod_lt m _ _ _ hm
  have k4 := h4
  have lt4 : ∀ x ∈ p4, x.block < W.heap.size := by obtain ⟨m, hm⟩ := k4; exact DataW.trod_lt m _ _ _ hm
  have k5 := h5
  have lt5 : ∀ x ∈ p5, x.block < W.heap.size := by obtain ⟨m, hm⟩ := k5; exact DataW.trod_lt m _ _ _ hm
  obtain ⟨a0, rfl, rfl, rfl, w0⟩ := open_int Try.underlying3 (hval 0 3 v0 rfl rfl) h0
  have b0 := in_of_wf w0
  obtain ⟨a1, rfl, rfl, rfl, w1⟩ := open_int Try.underlying3 (hval 1 3 v1 rfl rfl) h1
  have b1 := in_of_wf w1
  obtain ⟨a2, rfl, rfl, rfl, w2⟩ := open_int Try.underlying3 (hval 2 3 v2 rfl rfl) h2
  have b2 := in_of_wf w2
  obtain ⟨a3, rfl, rfl, rfl, w3⟩ := open_int Try.underlying3 (hval 3 3 v3 rfl rfl) h3
  have b3 := in_of_wf w3
  obtain ⟨a4, rfl, rfl, rfl, w4⟩ := open_int Try.underlying3 (hval 4 3 v4 rfl rfl) h4
  have b4 := in_of_wf w4
  obtain ⟨a5, rfl, rfl, rfl, w5⟩ := open_int Try.underlying3 (hval 5 3 v5 rfl rfl) h5
  have b5 := in_of_wf w5
  clear hA0 hval0 hsz0 hsz
  refine (walk a0 a1 a2 a3 a4 a5 W b0 b1 b2 b3 b4 b5).mono fun e W' ⟨he, bel⟩ => ?_
  subst he
  exact ⟨_, rfl, _, _, _, [], _, [], hW', trodAll_mk1 (shut_bool Try.underlying4 _), (trodAll_cons_mk (Below.trod laidOut (by kernel_rfl) (of_decide_eq_true (by kernel_rfl)) k0 bel lt0) (trodAll_cons_mk (Below.trod laidOut (by kernel_rfl) (of_decide_eq_true (by kernel_rfl)) k1 bel lt1) (trodAll_cons_mk (Below.trod laidOut (by kernel_rfl) (of_decide_eq_true (by kernel_rfl)) k2 bel lt2) (trodAll_cons_mk (Below.trod laidOut (by kernel_rfl) (of_decide_eq_true (by kernel_rfl)) k3 bel lt3) (trodAll_cons_mk (Below.trod laidOut (by kernel_rfl) (of_decide_eq_true (by kernel_rfl)) k4 bel lt4) (trodAll_cons_mk (Below.trod laidOut (by kernel_rfl) (of_decide_eq_true (by kernel_rfl)) k5 bel lt5) trodAll_mk0)))))), rfl, bel.frame _, fun h => by cases h⟩

theorem over : Rows.leaseSafeRow.holds Try.pinned (OpenSpec.ofChange Rows.leaseSafeSpec) :=
  OpenClaim.holds_of_wide 4 Try.f4 rfl rfl rfl rfl rfl rfl rfl ⟨rfl, rfl, rfl, rfl, rfl⟩ rfl rfl rfl rfl rfl (by kernel_rfl) Try.func4 (by kernel_rfl)
    (of_decide_eq_true (by kernel_rfl)) (by unfold Func.isWrapper; first | (rw [if_pos (by decide +kernel)]; kernel_rfl) | (rw [if_neg (by decide +kernel)]; exact ⟨rfl, rfl⟩))
    (fun os started H enc _ => lifted os started H enc)

theorem proved : Rows.LeaseSafeSaid := over
end Go.Proofs.Ytgkpkegbjkjhiaa.lawLSafe
