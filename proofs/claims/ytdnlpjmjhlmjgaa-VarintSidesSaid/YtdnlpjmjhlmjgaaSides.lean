/-
  The statement VarintSides is proved for every number: a number below 0 takes as many bytes as the one as far above, and they differ in their first byte alone, by one. No condition.
-/
import Derived.Test.YtdnlpjmjhlmjgaaMath2
import Derived.Test.YtdnlpjmjhlmjgaaFrame
import Derived.Test.YtdnlpjmjhlmjgaaRows
namespace Go.Proofs.Ytdnlpjmjhlmjgaa.lawSides
open Go.ChangeShapes Go.WideShapes Go.ChangeAt Go.RowKit
open Go.ChangeMaps (open_string shut_string)

theorem turn (m : Int) (h0 : 0 ≤ m) (h : m ≤ 9223372036854775807) : wrap64 (-wrap64 (m + 1)) = -(m + 1) := by
  have e : ∀ n : Int, wrap64 n = (n + 9223372036854775808) % 18446744073709551616 - 9223372036854775808 := fun n => by unfold wrap64; omega
  rw [e, e]
  omega

theorem S_size' (x : UInt8) (t : List UInt8) : (S (x :: t)).size = t.length + 1 := by rw [S_size]; rfl
theorem S_get (x : UInt8) (t : List UInt8) (h : 0 < (S (x :: t)).size) : (S (x :: t))[0] = x := rfl
theorem S_tail (x : UInt8) (t : List UInt8) : (S (x :: t)).extract 1 (t.length + 1) = S t := by
  rw [Lib.extract_eq]; simp [S]

theorem slice1 (x : UInt8) (t : List UInt8) (w : World) : (Instr.slice 9 (.string (S (x :: t))) (some (.int .i64 1)) none none).run Try.prog w = .ok (.string (S t)) w := by
  rw [run_slice_string_from_if w 9 (S (x :: t)) .i64 1 Try.underlying9]
  rw [if_pos (by rw [S_size']; omega)]
  simp [S_size', S_tail]

theorem bytes_next {x y : UInt8} (h : y.toNat = x.toNat + 1) : (IntKind.u8.wrap ((x.toNat : Int) + 1) == (y.toNat : Int)) = true := by
  have := y.toNat_lt
  rw [IntKind.wrap_u8, beq_iff_eq]; omega

set_option maxHeartbeats 1000000 in
theorem walk_at (a m k : Int) (hm : 0 ≤ m) (hk : k = -(m + 1)) (hin : Vm.In m) (hink : Vm.In k) (ha : a < 0 ∧ m = -(a + 1) ∨ 0 ≤ a ∧ m = a) (w : World) :
    Calls Try.prog 12 #[.int .i64 a] w fun e w' => e = .returned (.bool true) ∧ Below w.heap.size w w' := by
  obtain ⟨x, y, t, hx, hy, hxy⟩ := Vm.enc_next hm hin
  have HX : Hid (S (Vm.enc m) = S (x :: t)) := Lib.hid (by rw [hx])
  have HY : Hid (S (Vm.enc k) = S (y :: t)) := Lib.hid (by rw [hk, hy])
  have e3 := bytes_next hxy
  have hsx := S_size' x t
  have hsy := S_size' y t
  have hgx := S_get x t
  have hgy := S_get y t
  have htx := slice1 x t
  have hty := slice1 y t
  have HM := Lib.hid hin
  have HK := Lib.hid hink
  clear hx hy hxy
  rcases ha with ⟨h0, rfl⟩ | ⟨h0, rfl⟩
  · obtain rfl : k = a := by omega
    clear hk
    have h1 := hink.1
    clear hin hink
    go_enter Try.func12, Try.ntmps12
    go_wp2_with (go_at_call 13; refine (awake_any _).mono ?_; rintro e w1 ⟨rfl, hb1⟩)
    refine (num_any _ HM.out _).mono ?_
    rintro e w2 ⟨rfl, hb2⟩
    rw [HX.out]
    go_wp2_with fail
    rw [turn _ hm (HM.out).2, show -(-(k + 1) + 1) = k by omega]
    refine (num_any _ HK.out _).mono ?_
    rintro e w3 ⟨rfl, hb3⟩
    rw [HY.out]
    go_wp2
    go_quiet (fail)
    go_wp2
    go_ret
    exact ⟨rfl, below_drewN (hb1.trans ((hb2.trans (hb3.mono hb2.size)).mono hb1.size)) _⟩
  · have HE : Hid (-(m + 1) = k) := Lib.hid hk.symm
    clear hk hin hink
    go_enter Try.func12, Try.ntmps12
    go_wp2_with (go_at_call 13; refine (awake_any _).mono ?_; rintro e w1 ⟨rfl, hb1⟩)
    refine (num_any _ HM.out _).mono ?_
    rintro e w2 ⟨rfl, hb2⟩
    rw [HX.out]
    go_wp2_with fail
    rw [turn _ hm (HM.out).2, HE.out]
    refine (num_any _ HK.out _).mono ?_
    rintro e w3 ⟨rfl, hb3⟩
    rw [HY.out]
    go_wp2
    go_quiet (fail)
    go_wp2
    go_ret
    exact ⟨rfl, below_drewN (hb1.trans ((hb2.trans (hb3.mono hb2.size)).mono hb1.size)) _⟩

theorem walk (a : Int) (w : World) (ha : Vm.In a) :
    Calls Try.prog 12 #[.int .i64 a] w fun e w' => e = .returned (.bool true) ∧ Below w.heap.size w w' := by
  obtain ⟨h1, h2⟩ := ha
  by_cases h0 : a < 0
  · exact walk_at a (-(a + 1)) a (by omega) (by omega) ⟨by omega, by omega⟩ ⟨h1, h2⟩ (.inl ⟨h0, rfl⟩) w
  · exact walk_at a a (-(a + 1)) (by omega) rfl ⟨h1, h2⟩ ⟨by omega, by omega⟩ (.inr ⟨by omega, rfl⟩) w

theorem own : ownKnob Try.prog.godebug = none := by kernel_rfl
theorem laidOut : laidOutB Try.prog = true := by kernel_rfl

set_option maxRecDepth 100000 in
theorem lifted (os : Os) (started : os.Started) (H : Type) (enc : TypeId × Value → H) :
    ReturnsInHanded {} Try.checked os 12 .any (Rows.varintSidesSpec.pre6 enc Try.prog Try.f12 Rows.varintSidesRow.domain false) (Rows.varintSidesSpec.post enc Try.prog Try.f12 false true false false) := by
  refine returnsInHanded_of_change_sized (C := Try.checked) own started (by kernel_rfl) Try.func12
    (ChangeSpec.witness6 (enc := enc) (C := Try.checked) false ⟨#[], #[.int .i64 0], []⟩ 8 (by kernel_rfl) (by kernel_rfl) (by kernel_rfl) (by kernel_rfl)) ?_
  intro W base args ds gs before hval0 hW _ hsz0 _
  have hsz : (DataW.weightsEach Try.prog (Try.f12.params.toList ++ Rows.varintSidesSpec.plain.varTypes Try.prog) (ds ++ gs)).all (· ≤ reachBytes) = true := hsz0
  have hval : ∀ (j : Nat) t v, Try.f12.params[j]? = some t → args[j]? = some v → Value.okWide Try.prog W .any base t v := hval0
  have hW' := hW
  obtain ⟨p, q, hA0, hV, rfl, hfz, hnd⟩ := hW
  have hA : DataW.TrodAll enc Try.prog W 0 (fun _ => true) true Try.f12.params.toList args.toList ds p := hA0
  rw [Try.params12] at hA hval hsz
  obtain ⟨v0, vs0, d0, ds0, p0, q0, hargs, rfl, rfl, h0, r0⟩ := trodAll_cons hA
  obtain ⟨rfl, rfl, rfl⟩ := trodAll_nil r0
  obtain rfl : args = #[v0] := by cases args; simp_all
  obtain ⟨rfl, rfl⟩ := trodVars_none hV
  have k0 := h0
  have lt0 : ∀ x ∈ p0, x.block < W.heap.size := by obtain ⟨m, hm⟩ := k0; exact DataW.trod_lt m _ _ _ hm
  obtain ⟨a0, rfl, rfl, rfl, w0⟩ := open_int Try.underlying3 (hval 0 3 v0 rfl rfl) h0
  have b0 := in_of_wf w0
  clear hA0 hval0 hsz0 hsz
  refine (walk a0 W b0).mono fun e W' ⟨he, bel⟩ => ?_
  subst he
  exact ⟨_, rfl, _, _, _, [], _, [], hW', trodAll_mk1 (shut_bool Try.underlying4 _), (trodAll_cons_mk (Below.trod laidOut (by kernel_rfl) (of_decide_eq_true (by kernel_rfl)) k0 bel lt0) trodAll_mk0), rfl, bel.frame _, fun h => by cases h⟩

theorem over : Rows.varintSidesRow.holds Try.pinned (OpenSpec.ofChange Rows.varintSidesSpec) :=
  OpenClaim.holds_of_wide 12 Try.f12 rfl rfl rfl rfl rfl rfl rfl ⟨rfl, rfl, rfl, rfl, rfl⟩ rfl rfl rfl rfl rfl (by kernel_rfl) Try.func12 (by kernel_rfl)
    (of_decide_eq_true (by kernel_rfl)) (by unfold Func.isWrapper; first | (rw [if_pos (by decide +kernel)]; kernel_rfl) | (rw [if_neg (by decide +kernel)]; exact ⟨rfl, rfl⟩))
    (fun os started H enc _ => lifted os started H enc)

theorem proved : Rows.VarintSidesSaid := over
end Go.Proofs.Ytdnlpjmjhlmjgaa.lawSides
