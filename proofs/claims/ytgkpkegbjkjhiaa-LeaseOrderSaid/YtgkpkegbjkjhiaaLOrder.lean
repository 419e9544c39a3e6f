/-
  The statement LeaseOrder is proved for every three numbers: leases that were given later hold as long, and are over no earlier; Holds and Over are never both; a lease holds when it is given. No condition.
-/
import Derived.Test.YtgkpkegbjkjhiaaLcalls
import Derived.Test.YtgkpkegbjkjhiaaOpen14
import Derived.Test.YtgkpkegbjkjhiaaRows
namespace Go.Proofs.Ytgkpkegbjkjhiaa.lawLOrder
open Go.ChangeShapes Go.WideShapes Go.ChangeAt Go.RowKit Gm

theorem facts {lo hi : Int} (h : lo ≤ hi) (now : Int) : untilN lo ≤ untilN hi ∧ (holdsN now (untilN lo) = true → holdsN now (untilN hi) = true) ∧ (overN now (untilN hi) = true → overN now (untilN lo) = true) ∧
    (holdsN now (untilN lo) = true → overN now (untilN lo) = false) ∧ (lo < 1099511627776 → holdsN lo (untilN lo) = true) ∧ overN lo (untilN lo) = false := by
  have h1 : whenN lo ≤ whenN hi := by unfold whenN; omega
  unfold holdsN overN
  simp only [decide_eq_true_eq, decide_eq_false_iff_not]
  refine ⟨by unfold untilN; omega, fun h => ?_, fun h => ?_, fun h => ?_, fun h => ?_, ?_⟩ <;> (unfold untilN whenN at *; omega)

set_option maxRecDepth 100000 in
set_option maxHeartbeats 4000000 in
theorem walk (a b now : Int) (w : World) (h0 : I64 a) (h1 : I64 b) (h2 : I64 now) :
    Calls Try.prog 8 #[.int .i64 a, .int .i64 b, .int .i64 now] w fun e w' => e = .returned (.bool true) ∧ Below w.heap.size w w' := by
  have hmn := min2 a b
  have hmx := max2 a b
  obtain ⟨lo, hlo⟩ : ∃ x, min a b = x := ⟨_, rfl⟩
  obtain ⟨hi, hhi⟩ : ∃ x, max a b = x := ⟨_, rfl⟩
  rw [hlo] at hmn
  rw [hhi] at hmx
  have HLO : Hid (I64 lo) := Lib.hid (by unfold I64 at *; omega)
  have HHI : Hid (I64 hi) := Lib.hid (by unfold I64 at *; omega)
  have H2 := Lib.hid h2
  obtain ⟨f1, f2, f3, f4, f5, f6⟩ := facts (show lo ≤ hi by omega) now
  have b1 := until_bd lo
  have b2 := until_bd hi
  obtain ⟨one, e1⟩ : ∃ x, untilN lo = x := ⟨_, rfl⟩
  obtain ⟨two, e2⟩ : ∃ x, untilN hi = x := ⟨_, rfl⟩
  rw [e1] at f1 f2 f3 f4 f5 f6 b1
  rw [e2] at f1 f2 f3 b2
  have HE1 := Lib.hid e1
  have HE2 := Lib.hid e2
  have HI1 : Hid (I64 one) := Lib.hid (by unfold I64; omega)
  have HI2 : Hid (I64 two) := Lib.hid (by unfold I64; omega)
  have i1 : decide (one ≤ two) = true := decide_eq_true f1
  have K1 : ∃ x, holdsN now one = x := ⟨_, rfl⟩
  have K2 : ∃ x, overN now two = x := ⟨_, rfl⟩
  obtain ⟨x1, k1⟩ := K1
  obtain ⟨x2, k2⟩ := K2
  have HF6 := Lib.hid f6
  have HK1 := Lib.hid k1
  have HK2 := Lib.hid k2
  have HF2 : Hid (x1 = true → holdsN now two = true) := Lib.hid (fun h => f2 (k1.trans h))
  have HF3 : Hid (x2 = true → overN now one = true) := Lib.hid (fun h => f3 (k2.trans h))
  have HF4 : Hid (x1 = true → overN now one = false) := Lib.hid (fun h => f4 (k1.trans h))
  have HNO : Hid ((x1 && x2) = false) := Lib.hid (by
    rcases x1 with _ | _ <;> rcases x2 with _ | _ <;> first | rfl | (have h1 := f4 k1; have h2 := f3 k2; rw [h1] at h2; cases h2))
  have HF5 : Hid (lo < 1099511627776 → holdsN lo one = true) := Lib.hid f5
  clear f2 f3 f4 f5 f6 k1 k2 b1 b2 f1 hlo hhi h0 h1 h2 e1 e2
  have hge : ∃ y, decide ((1099511627776 : Int) ≤ lo) = y ∧ (y = false → lo < 1099511627776) := ⟨_, rfl, fun h => by simpa using h⟩
  obtain ⟨y, hy, hy2⟩ := hge
  have HY := Lib.hid hy2
  clear hy2
  go_enter Try.func8, Try.ntmps8
  go_wp2_with (go_at_call 9; refine (awake_any _).mono ?_; rintro e w1 ⟨rfl, hB⟩)
  go_wp2_with (go_at_call 12; (with_reducible refine (until_is hB lo HLO.out HE1.out).mono ?_); rintro e w2 ⟨rfl, hB2⟩)
  go_wp2_with (go_at_call 12; (with_reducible refine (until_is hB2 hi HHI.out HE2.out).mono ?_); rintro e w3 ⟨rfl, hB3⟩)
  clear hB hB2
  rcases x1 with _ | _ <;> rcases x2 with _ | _ <;> rcases y with _ | _
  all_goals first
    | (exfalso; first | exact HNO.out | exact absurd HNO.out (by decide))
    | skip
  all_goals
    have hB := hB3
    clear hB3
    go_wp2_with (first
      | (go_at_call 14; (with_reducible refine (holds_is hB now one H2.out HI1.out HK1.out).mono ?_); rintro e w4 ⟨rfl, hB'⟩; replace hB := hB'; clear hB')
      | (go_at_call 14; (with_reducible refine (holds_is hB now two H2.out HI2.out (by first | exact HF2.out trivial | exact HF2.out rfl)).mono ?_); rintro e w4 ⟨rfl, hB'⟩; replace hB := hB'; clear hB')
      | (go_at_call 16; (with_reducible refine (over_is hB now two H2.out HI2.out HK2.out).mono ?_); rintro e w4 ⟨rfl, hB'⟩; replace hB := hB'; clear hB')
      | (go_at_call 16; (with_reducible refine (over_is hB now one H2.out HI1.out (by first | exact HF3.out trivial | exact HF3.out rfl)).mono ?_); rintro e w4 ⟨rfl, hB'⟩; replace hB := hB'; clear hB')
      | (go_at_call 16; (with_reducible refine (over_is hB now one H2.out HI1.out (by first | exact HF4.out trivial | exact HF4.out rfl)).mono ?_); rintro e w4 ⟨rfl, hB'⟩; replace hB := hB'; clear hB')
      | (go_at_call 14; (with_reducible refine (holds_is hB lo one HLO.out HI1.out (HF5.out (by first | exact HY.out trivial | exact HY.out rfl))).mono ?_); rintro e w4 ⟨rfl, hB'⟩; replace hB := hB'; clear hB')
      | (go_at_call 16; (with_reducible refine (over_is hB lo one HLO.out HI1.out HF6.out).mono ?_); rintro e w4 ⟨rfl, hB'⟩; replace hB := hB'; clear hB'))
  all_goals
    go_ret
    exact ⟨rfl, hB⟩
theorem own : ownKnob Try.prog.godebug = none := by kernel_rfl
theorem laidOut : laidOutB Try.prog = true := by kernel_rfl

set_option maxRecDepth 100000 in
theorem lifted (os : Os) (started : os.Started) (H : Type) (enc : TypeId × Value → H) :
    ReturnsInHanded {} Try.checked os 8 .any (Rows.leaseOrderSpec.pre6 enc Try.prog Try.f8 Rows.leaseOrderRow.domain false) (Rows.leaseOrderSpec.post enc Try.prog Try.f8 false true false false) := by
  refine returnsInHanded_of_change_sized (C := Try.checked) own started (by kernel_rfl) Try.func8
    (ChangeSpec.witness6 (enc := enc) (C := Try.checked) false ⟨#[], #[.int .i64 0, .int .i64 0, .int .i64 0], []⟩ 8 (by kernel_rfl) (by kernel_rfl) (by kernel_rfl) (by kernel_rfl)) ?_
  intro W base args ds gs before hval0 hW _ hsz0 _
  have hsz : (DataW.weightsEach Try.prog (Try.f8.params.toList ++ Rows.leaseOrderSpec.plain.varTypes Try.prog) (ds ++ gs)).all (· ≤ reachBytes) = true := hsz0
  have hval : ∀ (j : Nat) t v, Try.f8.params[j]? = some t → args[j]? = some v → Value.okWide Try.prog W .any base t v := hval0
  have hW' := hW
  obtain ⟨p, q, hA0, hV, rfl, hfz, hnd⟩ := hW
  have hA : DataW.TrodAll enc Try.prog W 0 (fun _ => true) true Try.f8.params.toList args.toList ds p := hA0
  rw [Try.params8] at hA hval hsz
  obtain ⟨v0, vs0, d0, ds0, p0, q0, hargs, rfl, rfl, h0, r0⟩ := trodAll_cons hA
  obtain ⟨v1, vs1, d1, ds1, p1, q1, rfl, rfl, rfl, h1, r1⟩ := trodAll_cons r0
  obtain ⟨v2, vs2, d2, ds2, p2, q2, rfl, rfl, rfl, h2, r2⟩ := trodAll_cons r1
  obtain ⟨rfl, rfl, rfl⟩ := trodAll_nil r2
  obtain rfl : args = #[v0, v1, v2] := by cases args; simp_all
  obtain ⟨rfl, rfl⟩ := trodVars_none hV
  have k0 := h0
  have lt0 : ∀ x ∈ p0, x.block < W.heap.size := by obtain ⟨m, hm⟩ := k0; exact DataW.trod_lt m _ _ _ hm
  have k1 := h1
  have lt1 : ∀ x ∈ p1, x.block < W.heap.size := by obtain ⟨m, hm⟩ := k1; exact DataW.trod_lt m _ _ _ hm
  have k2 := h2
  have lt2 : ∀ x ∈ p2, x.block < W.heap.size := by obtain ⟨m, hm⟩ := k2; exact DataW.trod_lt m _ _ _ hm
  obtain ⟨a0, rfl, rfl, rfl, w0⟩ := open_int Try.underlying3 (hval 0 3 v0 rfl rfl) h0
  have b0 := in_of_wf w0
  obtain ⟨a1, rfl, rfl, rfl, w1⟩ := open_int Try.underlying3 (hval 1 3 v1 rfl rfl) h1
  have b1 := in_of_wf w1
  obtain ⟨a2, rfl, rfl, rfl, w2⟩ := open_int Try.underlying3 (hval 2 3 v2 rfl rfl) h2
  have b2 := in_of_wf w2
  clear hA0 hval0 hsz0 hsz
  refine (walk a0 a1 a2 W b0 b1 b2).mono fun e W' ⟨he, bel⟩ => ?_
  subst he
  exact ⟨_, rfl, _, _, _, [], _, [], hW', trodAll_mk1 (shut_bool Try.underlying4 _), (trodAll_cons_mk (Below.trod laidOut (by kernel_rfl) (of_decide_eq_true (by kernel_rfl)) k0 bel lt0) (trodAll_cons_mk (Below.trod laidOut (by kernel_rfl) (of_decide_eq_true (by kernel_rfl)) k1 bel lt1) (trodAll_cons_mk (Below.trod laidOut (by kernel_rfl) (of_decide_eq_true (by kernel_rfl)) k2 bel lt2) trodAll_mk0))), rfl, bel.frame _, fun h => by cases h⟩

theorem over : Rows.leaseOrderRow.holds Try.pinned (OpenSpec.ofChange Rows.leaseOrderSpec) :=
  OpenClaim.holds_of_wide 8 Try.f8 rfl rfl rfl rfl rfl rfl rfl ⟨rfl, rfl, rfl, rfl, rfl⟩ rfl rfl rfl rfl rfl (by kernel_rfl) Try.func8 (by kernel_rfl)
    (of_decide_eq_true (by kernel_rfl)) (by unfold Func.isWrapper; first | (rw [if_pos (by decide +kernel)]; kernel_rfl) | (rw [if_neg (by decide +kernel)]; exact ⟨rfl, rfl⟩))
    (fun os started H enc _ => lifted os started H enc)

theorem proved : Rows.LeaseOrderSaid := over
end Go.Proofs.Ytgkpkegbjkjhiaa.lawLOrder
