/-
  The statement VarintShort is proved for every number: small numbers take few bytes, one more for each seven bits. No condition.
-/
import Derived.Test.YtdnlpjmjhlmjgaaFrame
import Derived.Test.YtdnlpjmjhlmjgaaRows
namespace Go.Proofs.Ytdnlpjmjhlmjgaa.lawShort
open Go.ChangeShapes Go.WideShapes Go.ChangeAt Go.RowKit
open Go.ChangeMaps (open_string shut_string)

theorem zig_half (a : Int) : ((Vm.zig a / 128 : Nat) : Int) = if 0 ≤ a then a / 64 else (-(a + 1)) / 64 := by
  unfold Vm.zig
  split <;> omega

theorem half_neg (a : Int) (h0 : a < 0) (h : -9223372036854775808 ≤ a) : wrap64 (-((a + 1).tdiv 64)) = (-(a + 1)) / 64 := by
  rw [← Int.neg_tdiv, Int.tdiv_eq_ediv_of_nonneg (by omega)]
  exact IntWalk.wrap64_in _ ⟨by omega, by omega⟩

set_option maxHeartbeats 1000000 in
theorem walk (a : Int) (w : World) (ha : Vm.In a) :
    Calls Try.prog 7 #[.int .i64 a] w fun e w' => e = .returned (.bool true) ∧ Below w.heap.size w w' := by
  have h1 := ha.1
  have h2 := ha.2
  have HA := Lib.hid ha
  clear ha
  have hz := zig_half a
  by_cases h0 : 0 ≤ a
  all_goals
    first | rw [if_pos h0] at hz | rw [if_neg h0] at hz
    have HZ := Lib.hid hz
    clear hz
    go_enter Try.func7, Try.ntmps7
    go_wp2_with (go_at_call 13; refine (awake_any _).mono ?_; rintro e w1 ⟨rfl, hb1⟩)
    go_loop [4, 5] (fun m k => ∃ (f y j : Nat), m = .int .i64 ((y / 128 : Nat) : Int) ∧ k = .int .i64 (j : Int) ∧ j ≤ 10 ∧ y < 18446744073709551616 ∧ f + j = 10 ∧ y < 2 * 128 ^ f ∧ (Vm.enc a).length + 1 = j + (Vm.encF f y).length) (fun m _ => (intOf m).toNat)
    case atStart => exact ⟨9, Vm.zig a, 1, by rw [HZ.out]; try rw [half_neg a (by omega) h1], rfl, by omega, by have := Vm.zig_lt HA.out; omega, rfl, Vm.zig_lt HA.out, Nat.add_comm _ _⟩
    case round =>
      obtain ⟨f, y, j, rfl, rfl, hj, hy64, hf, hy, hl⟩ := hrel
      have HF := Lib.hid hf
      have HY := Lib.hid hy
      have HL := Lib.hid hl
      clear hf hy hl
      by_cases hm : y < 128
      · have hm0 : ((y / 128 : Nat) : Int) ≤ 0 := by omega
        have hlen : (S (Vm.enc a)).size = j := by rw [S_size]; have := HL.out; rw [Vm.encF_small f hm] at this; simp at this; omega
        clear hm
        go_wp2_with (go_at_call 14; refine (num_any _ HA.out _).mono ?_; rintro e w2 ⟨rfl, hb2⟩)
        go_ret
        exact ⟨rfl, hb1.trans (hb2.mono hb1.size)⟩
      · have hm0 : 0 < ((y / 128 : Nat) : Int) := by omega
        obtain ⟨g, rfl⟩ : ∃ g, f = g + 1 := by
          cases f with
          | zero => have := HY.out; omega
          | succ g => exact ⟨g, rfl⟩
        have hl2 : Hid ((Vm.enc a).length + 1 = (j + 1) + (Vm.encF g (y / 128)).length) := Lib.hid (by have := HL.out; rw [Vm.encF_big g hm] at this; simp at this; omega)
        clear hm
        go_wp2
        go_round
        case rel => exact ⟨g, y / 128, j + 1, by go_num, by go_num, by have := HF.out; omega, by omega, by have := HF.out; omega, Vm.div_lt g HY.out, hl2.out⟩
        case measure => simp [intOf]; omega

theorem own : ownKnob Try.prog.godebug = none := by kernel_rfl
theorem laidOut : laidOutB Try.prog = true := by kernel_rfl

set_option maxRecDepth 100000 in
theorem lifted (os : Os) (started : os.Started) (H : Type) (enc : TypeId × Value → H) :
    ReturnsInHanded {} Try.checked os 7 .any (Rows.varintShortSpec.pre6 enc Try.prog Try.f7 Rows.varintShortRow.domain false) (Rows.varintShortSpec.post enc Try.prog Try.f7 false true false false) := by
  refine returnsInHanded_of_change_sized (C := Try.checked) own started (by kernel_rfl) Try.func7
    (ChangeSpec.witness6 (enc := enc) (C := Try.checked) false ⟨#[], #[.int .i64 0], []⟩ 8 (by kernel_rfl) (by kernel_rfl) (by kernel_rfl) (by kernel_rfl)) ?_
  intro W base args ds gs before hval0 hW _ hsz0 _
  have hsz : (DataW.weightsEach Try.prog (Try.f7.params.toList ++ Rows.varintShortSpec.plain.varTypes Try.prog) (ds ++ gs)).all (· ≤ reachBytes) = true := hsz0
  have hval : ∀ (j : Nat) t v, Try.f7.params[j]? = some t → args[j]? = some v → Value.okWide Try.prog W .any base t v := hval0
  have hW' := hW
  obtain ⟨p, q, hA0, hV, rfl, hfz, hnd⟩ := hW
  have hA : DataW.TrodAll enc Try.prog W 0 (fun _ => true) true Try.f7.params.toList args.toList ds p := hA0
  rw [Try.params7] at hA hval hsz
  obtain ⟨v0, vs0, d0, ds0, p0, q0, hargs, rfl, rfl, h0, r0⟩ := trodAll_cons hA
  obtain ⟨rfl, rfl, rfl⟩ := trodAll_nil r0
  obtain rfl : args = #[v0] := by cases args; simp_all
  obtain ⟨rfl, rfl⟩ := trodVars_none hV
  have k0 := h0
  have lt0 : ∀ x ∈ p0, x.block < W.heap.size := by obtain ⟨m, hm⟩ := k0; exact DataW.trod_lt m _ _ _ hm
  obtain ⟨a0, rfl, rfl, rfl, w0⟩ := open_int Try.underlying3 (hval 0 3 v0 rfl rfl) h0
  have b0 := in_of_wf w0
  clear hA0 hval0 hsz0 hsz
  refine (walk a0 W b0).mono fun e W' ⟨he, bel⟩ => ?_
  subst he
  exact ⟨_, rfl, _, _, _, [], _, [], hW', trodAll_mk1 (shut_bool Try.underlying4 _), (trodAll_cons_mk (Below.trod laidOut (by kernel_rfl) (of_decide_eq_true (by kernel_rfl)) k0 bel lt0) trodAll_mk0), rfl, bel.frame _, fun h => by cases h⟩

theorem over : Rows.varintShortRow.holds Try.pinned (OpenSpec.ofChange Rows.varintShortSpec) :=
  OpenClaim.holds_of_wide 7 Try.f7 rfl rfl rfl rfl rfl rfl rfl ⟨rfl, rfl, rfl, rfl, rfl⟩ rfl rfl rfl rfl rfl (by kernel_rfl) Try.func7 (by kernel_rfl)
    (of_decide_eq_true (by kernel_rfl)) (by unfold Func.isWrapper; first | (rw [if_pos (by decide +kernel)]; kernel_rfl) | (rw [if_neg (by decide +kernel)]; exact ⟨rfl, rfl⟩))
    (fun os started H enc _ => lifted os started H enc)

theorem proved : Rows.VarintShortSaid := over
end Go.Proofs.Ytdnlpjmjhlmjgaa.lawShort
