/-
  The statement VarintOnce is proved for any two numbers: unlike numbers are laid unlike, and none's bytes begin another one's. No condition.
-/
import Derived.Test.YtdnlpjmjhlmjgaaMath2
import Derived.Test.YtdnlpjmjhlmjgaaFrame
import Derived.Test.YtdnlpjmjhlmjgaaRows
namespace Go.Proofs.Ytdnlpjmjhlmjgaa.lawOnce
open Go.ChangeShapes Go.WideShapes Go.ChangeAt Go.RowKit
open Go.ChangeMaps (open_string shut_string)

set_option maxHeartbeats 1000000 in
theorem walk_eq (n : Int) (w : World) (hn : Vm.In n) :
    Calls Try.prog 6 #[.int .i64 n, .int .i64 n] w fun e w' => e = .returned (.bool true) ∧ Below w.heap.size w w' := by
  obtain ⟨A, hA⟩ : ∃ A, S (Vm.enc n) = A := ⟨_, rfl⟩
  have hl : 1 ≤ A.size ∧ A.size ≤ 10 := by rw [← hA, S_size]; exact Vm.enc_length n
  obtain ⟨hl1, hl2⟩ := hl
  have HA := Lib.hid hA
  have HN := Lib.hid hn
  clear hA hn
  go_enter Try.func6, Try.ntmps6
  go_wp2_with (go_at_call 13; refine (awake_any _).mono ?_; rintro e w1 ⟨rfl, hb1⟩)
  refine (num_any _ HN.out _).mono ?_
  rintro e w2 ⟨rfl, hb2⟩
  rw [HA.out]
  go_wp2_with fail
  refine (num_any _ HN.out _).mono ?_
  rintro e w3 ⟨rfl, hb3⟩
  rw [HA.out]
  go_wp2
  go_ret
  exact ⟨rfl, hb1.trans ((hb2.trans (hb3.mono hb2.size)).mono hb1.size)⟩

theorem slice_to (s : ByteArray) (k : Nat) (h : k ≤ s.size) (w : World) : (Instr.slice 9 (.string s) none (some (.int .i64 (k : Int))) none).run Try.prog w = .ok (.string (s.extract 0 k)) w := by
  rw [run_slice_string_to_if w 9 s .i64 (k : Int) Try.underlying9]
  rw [if_pos (by omega)]
  simp
theorem part_to (a b : List UInt8) (k : Nat) (h : a.take k ≠ b.take k) : (((S a).extract 0 k).toList == ((S b).extract 0 k).toList) = false := by
  rw [Lib.extract_toList, Lib.extract_toList, S_list, S_list, beq_eq_false_iff_ne]
  simpa using h

set_option maxHeartbeats 1000000 in
theorem walk_ne (n m : Int) (w : World) (hn : Vm.In n) (hm : Vm.In m) (hne : (n == m) = false) :
    Calls Try.prog 6 #[.int .i64 n, .int .i64 m] w fun e w' => e = .returned (.bool true) ∧ Below w.heap.size w w' := by
  obtain ⟨A, hA⟩ : ∃ A, S (Vm.enc n) = A := ⟨_, rfl⟩
  obtain ⟨B, hB⟩ : ∃ B, S (Vm.enc m) = B := ⟨_, rfl⟩
  have hl : 1 ≤ A.size ∧ A.size ≤ 10 := by rw [← hA, S_size]; exact Vm.enc_length n
  have hk : 1 ≤ B.size ∧ B.size ≤ 10 := by rw [← hB, S_size]; exact Vm.enc_length m
  obtain ⟨hl1, hl2⟩ := hl
  obtain ⟨hk1, hk2⟩ := hk
  have hab : ∀ k, (k = A.size ∨ k = B.size) → k ≤ A.size → k ≤ B.size → ((A.extract 0 k).toList == (B.extract 0 k).toList) = false := by
    intro k h1 h2 h3
    rw [← hA, ← hB] at *
    rw [S_size] at *
    refine part_to _ _ k (Vm.enc_part hn hm (by simpa using hne) ?_ h2 h3)
    simpa [S_size] using h1
  have HA := Lib.hid hA
  have HB := Lib.hid hB
  have HN := Lib.hid hn
  have HM := Lib.hid hm
  clear hA hn hB hm
  rcases Nat.lt_or_ge B.size A.size with hlt | hge
  · have hk := hab B.size (.inr rfl) (by omega) (Nat.le_refl _)
    have s1 := slice_to A B.size (by omega)
    have s2 := slice_to B B.size (Nat.le_refl _)
    clear hab
    generalize A.extract 0 B.size = P at *
    generalize B.extract 0 B.size = Q at *
    go_enter Try.func6, Try.ntmps6
    go_wp2_with (go_at_call 13; refine (awake_any _).mono ?_; rintro e w1 ⟨rfl, hb1⟩)
    refine (num_any _ HN.out _).mono ?_
    rintro e w2 ⟨rfl, hb2⟩
    rw [HA.out]
    go_wp2_with fail
    refine (num_any _ HM.out _).mono ?_
    rintro e w3 ⟨rfl, hb3⟩
    rw [HB.out]
    go_wp2
    go_quiet (fail)
    go_wp2
    go_ret
    exact ⟨rfl, below_drewN (hb1.trans ((hb2.trans (hb3.mono hb2.size)).mono hb1.size)) _⟩
  · have hk := hab A.size (.inl rfl) (Nat.le_refl _) (by omega)
    have s1 := slice_to A A.size (Nat.le_refl _)
    have s2 := slice_to B A.size (by omega)
    clear hab
    generalize A.extract 0 A.size = P at *
    generalize B.extract 0 A.size = Q at *
    go_enter Try.func6, Try.ntmps6
    go_wp2_with (go_at_call 13; refine (awake_any _).mono ?_; rintro e w1 ⟨rfl, hb1⟩)
    refine (num_any _ HN.out _).mono ?_
    rintro e w2 ⟨rfl, hb2⟩
    rw [HA.out]
    go_wp2_with fail
    refine (num_any _ HM.out _).mono ?_
    rintro e w3 ⟨rfl, hb3⟩
    rw [HB.out]
    go_wp2
    go_quiet (fail)
    go_wp2
    go_ret
    exact ⟨rfl, below_drewN (hb1.trans ((hb2.trans (hb3.mono hb2.size)).mono hb1.size)) _⟩

theorem walk (n m : Int) (w : World) (hn : Vm.In n) (hm : Vm.In m) :
    Calls Try.prog 6 #[.int .i64 n, .int .i64 m] w fun e w' => e = .returned (.bool true) ∧ Below w.heap.size w w' := by
  by_cases h : n = m
  · subst h; exact walk_eq n w hn
  · exact walk_ne n m w hn hm (by simpa using h)

theorem own : ownKnob Try.prog.godebug = none := by kernel_rfl
theorem laidOut : laidOutB Try.prog = true := by kernel_rfl

set_option maxRecDepth 100000 in
theorem lifted (os : Os) (started : os.Started) (H : Type) (enc : TypeId × Value → H) :
    ReturnsInHanded {} Try.checked os 6 .any (Rows.varintOnceSpec.pre6 enc Try.prog Try.f6 Rows.varintOnceRow.domain false) (Rows.varintOnceSpec.post enc Try.prog Try.f6 false true false false) := by
  refine returnsInHanded_of_change_sized (C := Try.checked) own started (by kernel_rfl) Try.func6
    (ChangeSpec.witness6 (enc := enc) (C := Try.checked) false ⟨#[], #[.int .i64 0, .int .i64 0], []⟩ 8 (by kernel_rfl) (by kernel_rfl) (by kernel_rfl) (by kernel_rfl)) ?_
  intro W base args ds gs before hval0 hW _ hsz0 _
  have hsz : (DataW.weightsEach Try.prog (Try.f6.params.toList ++ Rows.varintOnceSpec.plain.varTypes Try.prog) (ds ++ gs)).all (· ≤ reachBytes) = true := hsz0
  have hval : ∀ (j : Nat) t v, Try.f6.params[j]? = some t → args[j]? = some v → Value.okWide Try.prog W .any base t v := hval0
  have hW' := hW
  obtain ⟨p, q, hA0, hV, rfl, hfz, hnd⟩ := hW
  have hA : DataW.TrodAll enc Try.prog W 0 (fun _ => true) true Try.f6.params.toList args.toList ds p := hA0
  rw [Try.params6] at hA hval hsz
  obtain ⟨v0, vs0, d0, ds0, p0, q0, hargs, rfl, rfl, h0, r0⟩ := trodAll_cons hA
  obtain ⟨v1, vs1, d1, ds1, p1, q1, rfl, rfl, rfl, h1, r1⟩ := trodAll_cons r0
  obtain ⟨rfl, rfl, rfl⟩ := trodAll_nil r1
  obtain rfl : args = #[v0, v1] := by cases args; simp_all
  obtain ⟨rfl, rfl⟩ := trodVars_none hV
  have k0 := h0
  have lt0 : ∀ x ∈ p0, x.block < W.heap.size := by obtain ⟨m, hm⟩ := k0; exact DataW.trod_lt m _ _ _ hm
  have k1 := h1
  have lt1 : ∀ x ∈ p1, x.block < W.heap.size := by obtain ⟨m, hm⟩ := k1; exact DataW.trod_lt m _ _ _ hm
  obtain ⟨a0, rfl, rfl, rfl, w0⟩ := open_int Try.underlying3 (hval 0 3 v0 rfl rfl) h0
  have b0 := in_of_wf w0
  obtain ⟨a1, rfl, rfl, rfl, w1⟩ := open_int Try.underlying3 (hval 1 3 v1 rfl rfl) h1
  have b1 := in_of_wf w1
  clear hA0 hval0 hsz0 hsz
  refine (walk a0 a1 W b0 b1).mono fun e W' ⟨he, bel⟩ => ?_
  subst he
  exact ⟨_, rfl, _, _, _, [], _, [], hW', trodAll_mk1 (shut_bool Try.underlying4 _), (trodAll_cons_mk (Below.trod laidOut (by kernel_rfl) (of_decide_eq_true (by kernel_rfl)) k0 bel lt0) (trodAll_cons_mk (Below.trod laidOut (by kernel_rfl) (of_decide_eq_true (by kernel_rfl)) k1 bel lt1) trodAll_mk0)), rfl, bel.frame _, fun h => by cases h⟩

theorem over : Rows.varintOnceRow.holds Try.pinned (OpenSpec.ofChange Rows.varintOnceSpec) :=
  OpenClaim.holds_of_wide 6 Try.f6 rfl rfl rfl rfl rfl rfl rfl ⟨rfl, rfl, rfl, rfl, rfl⟩ rfl rfl rfl rfl rfl (by kernel_rfl) Try.func6 (by kernel_rfl)
    (of_decide_eq_true (by kernel_rfl)) (by unfold Func.isWrapper; first | (rw [if_pos (by decide +kernel)]; kernel_rfl) | (rw [if_neg (by decide +kernel)]; exact ⟨rfl, rfl⟩))
    (fun os started H enc _ => lifted os started H enc)

theorem proved : Rows.VarintOnceSaid := over
end Go.Proofs.Ytdnlpjmjhlmjgaa.lawOnce
