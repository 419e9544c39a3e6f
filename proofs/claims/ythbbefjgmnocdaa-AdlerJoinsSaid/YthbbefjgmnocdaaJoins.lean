/-
  The statement AdlerJoins is proved for any two texts: Join of two sums is the sum of both texts, one behind the other, and so is Add. No condition.
-/
import Derived.Test.YthbbefjgmnocdaaAwake
import Derived.Test.YthbbefjgmnocdaaOpen
import Derived.Test.YthbbefjgmnocdaaRows
namespace Go.Proofs.Ythbbefjgmnocdaa.lawJoins
open Go.ChangeShapes Go.WideShapes Go.ChangeAt Go.RowKit
open Go.ChangeMaps (open_string shut_string)

theorem walk (s t : ByteArray) (w : World) (hs : s.size ≤ 140737488351232) (ht : t.size ≤ 140737488351232) :
    Calls Try.prog 4 #[.string s, .string t] w fun e w' => e = .returned (.bool true) ∧ Below w.heap.size w w' := by
  obtain ⟨l, rfl⟩ : ∃ l, s = S l := ⟨_, (S_eq s).symm⟩
  obtain ⟨m, rfl⟩ : ∃ l, t = S l := ⟨_, (S_eq t).symm⟩
  have hl : l.length ≤ 4611686018427387904 := by rw [S_size] at hs; omega
  have hm : m.length ≤ 4611686018427387904 := by rw [S_size] at ht; omega
  have hlm : (l ++ m).length ≤ 4611686018427387904 := by rw [S_size] at hs ht; rw [List.length_append]; omega
  have HE := Lib.hid (S_app l m)
  have HT := Lib.hid (S_size m)
  have HM := Lib.hid hm
  have HL := Lib.hid hl
  have HLM := Lib.hid hlm
  clear hl hlm hm
  have hc : (S l).size + (S m).size ≤ 281474976710656 := by omega
  go_enter Try.func4, Try.ntmps4
  go_wp2_with fail
  refine (awake_any _).mono ?_; rintro e w1 ⟨rfl, hb1⟩
  go_wp2_with fail
  rw [HE.out]
  refine (sum_any (l ++ m) _ HLM.out).mono ?_; rintro e w2 ⟨rfl, hb2⟩
  go_wp2_with fail
  refine (sum_any l _ HL.out).mono ?_; rintro e w3 ⟨rfl, hb3⟩
  go_wp2_with fail
  refine (sum_any m _ HM.out).mono ?_; rintro e w4 ⟨rfl, hb4⟩
  go_wp2_with fail
  rw [HT.out]
  refine (join_any _ _ _ _ (sum_u32 l) (sum_u32 m) ⟨by omega, by have := HM.out; omega⟩).mono ?_; rintro e w4 ⟨rfl, rfl⟩
  rw [Am.join_sum]
  go_wp2_with fail
  refine (sum_any l _ HL.out).mono ?_; rintro e w5 ⟨rfl, hb5⟩
  go_wp2_with fail
  refine (add_any _ m _ (sum_u32 l) HM.out).mono ?_; rintro e w6 ⟨rfl, hb6⟩
  rw [Am.add_sum]
  go_wp2
  go_ret
  exact ⟨rfl, bt (bt (bt (bt (bt hb1 hb2) hb3) hb4) hb5) hb6⟩

theorem own : ownKnob Try.prog.godebug = none := by kernel_rfl
theorem laidOut : laidOutB Try.prog = true := by kernel_rfl

set_option maxRecDepth 100000 in
theorem lifted (os : Os) (started : os.Started) (H : Type) (enc : TypeId × Value → H) :
    ReturnsInHanded {} Try.checked os 4 .any (Rows.adlerJoinsSpec.pre6 enc Try.prog Try.f4 Rows.adlerJoinsRow.domain false) (Rows.adlerJoinsSpec.post enc Try.prog Try.f4 false true false false) := by
  refine returnsInHanded_of_change_sized (C := Try.checked) own started (by kernel_rfl) Try.func4
    (ChangeSpec.witness6 (enc := enc) (C := Try.checked) false ⟨#[], #[.string ByteArray.empty, .string ByteArray.empty], []⟩ 8 (by kernel_rfl) (by kernel_rfl) (by kernel_rfl) (by kernel_rfl)) ?_
  intro W base args ds gs before hval0 hW _ hsz0 _
  have hsz : (DataW.weightsEach Try.prog (Try.f4.params.toList ++ Rows.adlerJoinsSpec.plain.varTypes Try.prog) (ds ++ gs)).all (· ≤ reachBytes) = true := hsz0
  have hval : ∀ (j : Nat) t v, Try.f4.params[j]? = some t → args[j]? = some v → Value.okWide Try.prog W .any base t v := hval0
  have hW' := hW
  obtain ⟨p, q, hA0, hV, rfl, hfz, hnd⟩ := hW
  have hA : DataW.TrodAll enc Try.prog W 0 (fun _ => true) true Try.f4.params.toList args.toList ds p := hA0
  rw [Try.params4] at hA hval hsz
  obtain ⟨v0, vs0, d0, ds0, p0, q0, hargs, rfl, rfl, h0, r0⟩ := trodAll_cons hA
  obtain ⟨v1, vs1, d1, ds1, p1, q1, rfl, rfl, rfl, h1, r1⟩ := trodAll_cons r0
  obtain ⟨rfl, rfl, rfl⟩ := trodAll_nil r1
  obtain rfl : args = #[v0, v1] := by cases args; simp_all
  obtain ⟨rfl, rfl⟩ := trodVars_none hV
  have k0 := h0
  have lt0 : ∀ x ∈ p0, x.block < W.heap.size := by obtain ⟨m, hm⟩ := k0; exact DataW.trod_lt m _ _ _ hm
  have k1 := h1
  have lt1 : ∀ x ∈ p1, x.block < W.heap.size := by obtain ⟨m, hm⟩ := k1; exact DataW.trod_lt m _ _ _ hm
  obtain ⟨a0, rfl, rfl, rfl, w0⟩ := open_string Try.underlying9 (hval 0 9 v0 rfl rfl) h0
  have b0 := sized_of (sized_string hsz (j := 0) (t := 9) rfl rfl)
  obtain ⟨a1, rfl, rfl, rfl, w1⟩ := open_string Try.underlying9 (hval 1 9 v1 rfl rfl) h1
  have b1 := sized_of (sized_string hsz (j := 1) (t := 9) rfl rfl)
  clear hA0 hval0 hsz0 hsz
  refine (walk a0 a1 W b0 b1).mono fun e W' ⟨he, bel⟩ => ?_
  subst he
  exact ⟨_, rfl, _, _, _, [], _, [], hW', trodAll_mk1 (shut_bool Try.underlying4 _), (trodAll_cons_mk (Below.trod laidOut (by kernel_rfl) (of_decide_eq_true (by kernel_rfl)) k0 bel lt0) (trodAll_cons_mk (Below.trod laidOut (by kernel_rfl) (of_decide_eq_true (by kernel_rfl)) k1 bel lt1) trodAll_mk0)), rfl, bel.frame _, fun h => by cases h⟩

theorem over : Rows.adlerJoinsRow.holds Try.pinned (OpenSpec.ofChange Rows.adlerJoinsSpec) :=
  OpenClaim.holds_of_wide 4 Try.f4 rfl rfl rfl rfl rfl rfl rfl ⟨rfl, rfl, rfl, rfl, rfl⟩ rfl rfl rfl rfl rfl (by kernel_rfl) Try.func4 (by kernel_rfl)
    (of_decide_eq_true (by kernel_rfl)) (by unfold Func.isWrapper; first | (rw [if_pos (by decide +kernel)]; kernel_rfl) | (rw [if_neg (by decide +kernel)]; exact ⟨rfl, rfl⟩))
    (fun os started H enc _ => lifted os started H enc)

theorem proved : Rows.AdlerJoinsSaid := over
end Go.Proofs.Ythbbefjgmnocdaa.lawJoins
