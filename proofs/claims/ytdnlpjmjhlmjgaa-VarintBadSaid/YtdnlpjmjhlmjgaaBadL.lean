/-
  The statement VarintBad is proved for every text and takes: once bad, always bad, and nothing more is taken. No condition.
-/
import Derived.Deep.QuietTactic
import Derived.BigQuiet
import Derived.Test.YtdnlpjmjhlmjgaaSlices
import Derived.Test.YtdnlpjmjhlmjgaaText
import Derived.Test.YtdnlpjmjhlmjgaaRows
namespace Go.Proofs.Ytdnlpjmjhlmjgaa.lawBadL
open Go.ChangeShapes Go.WideShapes Go.ChangeAt Go.RowKit
open Go.ChangeMaps (open_string shut_string)

theorem tmod_two (p : Int) : p.tmod 2 = 0 ∨ p.tmod 2 = 1 ∨ p.tmod 2 = -1 := by
  rcases Int.le_total 0 p with h | h
  · rw [Int.tmod_eq_emod_of_nonneg h]; omega
  · have := Int.neg_tmod p 2
    rw [Int.tmod_eq_emod_of_nonneg (show 0 ≤ -p by omega)] at this
    omega

set_option maxRecDepth 100000 in
set_option maxHeartbeats 4000000 in
theorem walk (s : ByteArray) (a1 : Option Addr) (len1 cap1 : Nat) (z1 : Nat → Int × Int) (w : World) (hs : s.size ≤ 140737488351232) (h1 : TakesAt w a1 len1 z1) :
    Calls Try.prog 8 #[.string s, .slice a1 len1 cap1] w fun e w' => e = .returned (.bool true) ∧ Below w.heap.size w w' := by
  obtain ⟨hl1, b1, o1, hn1, hcell1⟩ := h1
  have HC1 := Lib.hid hcell1
  have HN1 := Lib.hid hn1
  have hm1 : Vm.In (-1) := ⟨by decide, by decide⟩
  have hr : Hid (Vm.rd (S (Vm.enc (-1) ++ s.data.toList)).data.toList = some (-1, s.data.toList)) := Lib.hid (by rw [S_list]; exact Vm.rd_enc hm1 _)
  have HX : Hid (S (Vm.enc (-1)) ++ s = S (Vm.enc (-1) ++ s.data.toList)) := Lib.hid (S_append _ _)
  have l1 : (S (Vm.enc (-1))).size ≤ 10 := by rw [S_size]; exact (Vm.enc_length (-1)).2
  have l2 : (S (Vm.enc (-1) ++ s.data.toList)).size ≤ 4611686018427387904 := by
    rw [S_size, List.length_append, ← Lib.size_eq]; have := (Vm.enc_length (-1)).2; omega
  have HM := Lib.hid hm1
  clear hcell1 hn1 hm1
  go_enter Try.func8, Try.ntmps8
  go_wp2_with (go_at_call 13; refine (awake_any _).mono ?_; rintro e w1 ⟨rfl, hb1⟩)
  refine (num_any _ HM.out _).mono ?_
  rintro e w2 ⟨rfl, hb2⟩
  go_wp2_with fail
  rw [HX.out]
  refine (new_any _ _).mono ?_
  rintro e w3 ⟨rfl, rfl⟩
  have hB2 : Below w.heap.size w w2 := hb1.trans (hb2.mono hb1.size)
  have r0 := RdAt.new 49 w2 (S (Vm.enc (-1) ++ s.data.toList)) false
  have hB3 : Below w.heap.size w (w2.alloc (.cells #[.string (S (Vm.enc (-1) ++ s.data.toList)), .bool false] 49)) := hB2.alloc hB2.size _
  have hrb := hB2.size
  go_wp2_with fail
  refine (rtext_no w2.heap.size _ l2 100 (-1) _ _ r0 hr.out (.inl (by decide))).mono ?_
  rintro e w4 ⟨rfl, r4, g4⟩
  rw [S_eq] at r4
  have hB4 : Below w.heap.size w w4 := hB3.grown g4 hB3.size (fun k e => by cases e; exact hrb)
  generalize w2.heap.size = rb at *
  have c4 := r4.cell0
  go_wp2_with (go_at_call 24; refine (left_any _ _ _ c4).mono ?_; rintro e w7 ⟨rfl, rfl⟩)
  clear c4 hB3 r0 g4
  go_loopw [8] (fun i wr => ∃ q : Nat, q ≤ len1 ∧ q ≤ 100 ∧ i = .int .i64 q ∧ RdAt 49 wr rb s true ∧ Below w.heap.size w wr) (fun i _ => len1 - (intOf i).toNat)
  case atStart => exact ⟨0, Nat.zero_le _, Nat.zero_le _, rfl, r4, hB4⟩
  case round =>
    clear r4 hB4
    obtain ⟨q, hq, hq100, rfl, r5, hB⟩ := hrel
    have c0 := r5.cell0
    have c1 := r5.cell1
    by_cases hlt : q < len1 ∧ q < 100
    · obtain ⟨hlt0, hlt1⟩ := hlt
      obtain rfl : a1 = some ⟨b1, o1, none⟩ := by
        rcases HN1.out with h | h
        · omega
        · exact h
      obtain ⟨hb, hi1, hi2, hx0, hx1⟩ := HC1.out q hlt0
      generalize (z1 q).1 = p at *
      generalize (z1 q).2 = n at *
      have hne : rb ≠ b1 := by omega
      have hcx0 : wr.cell? ⟨b1, o1 + q * 2, none⟩ = some (.int .i64 p) := (hB.cell (p := ⟨b1, o1 + q * 2, none⟩) hb).trans hx0
      have hcx1 : wr.cell? ⟨b1, o1 + q * 2 + 1, none⟩ = some (.int .i64 n) := (hB.cell (p := ⟨b1, o1 + q * 2 + 1, none⟩) hb).trans hx1
      clear hx0 hx1 hi1 hi2
      rcases tmod_two p with hp | hp | hp
      · go_wp2_with fail
        refine (rnum_bad rb s _ r5).mono ?_
        rintro e w5 ⟨rfl, rfl⟩
        go_wp2_with (first
          | (go_at_call 24; refine (left_any _ _ _ c0).mono ?_; rintro e w7 ⟨rfl, rfl⟩)
          | (go_at_call 26; refine (bad_any _ _ _ c1).mono ?_; rintro e w7 ⟨rfl, rfl⟩)
          | (go_at_call 28; refine (ends_bad _ _ c1).mono ?_; rintro e w7 ⟨rfl, rfl⟩))
        go_roundw
        case rel => exact ⟨q + 1, by omega, by omega, by go_num, r5, hB⟩
        case measure => simp [intOf]; omega
      all_goals
        go_wp2_with fail
        refine (rtext_bad rb s n _ r5).mono ?_
        rintro e w5 ⟨rfl, r6, g6⟩
        have d0 := r6.cell0
        have d1 := r6.cell1
        have hB6 := hB.grown g6 hB.size (fun k e => by cases e; exact hrb)
        go_wp2_with (first
          | (go_at_call 24; refine (left_any _ _ _ d0).mono ?_; rintro e w7 ⟨rfl, rfl⟩)
          | (go_at_call 26; refine (bad_any _ _ _ d1).mono ?_; rintro e w7 ⟨rfl, rfl⟩)
          | (go_at_call 28; refine (ends_bad _ _ d1).mono ?_; rintro e w7 ⟨rfl, rfl⟩))
        go_roundw
        case rel => exact ⟨q + 1, by omega, by omega, by go_num, r6, hB6⟩
        case measure => simp [intOf]; omega
    · rcases Nat.lt_or_ge q len1 with hkl | hkl
      all_goals
        go_wp2_with (first
          | (go_at_call 26; refine (bad_any _ _ _ c1).mono ?_; rintro e w7 ⟨rfl, rfl⟩))
        go_ret
        exact ⟨rfl, hB⟩

theorem own : ownKnob Try.prog.godebug = none := by kernel_rfl
theorem laidOut : laidOutB Try.prog = true := by kernel_rfl

set_option maxRecDepth 100000 in
theorem lifted (os : Os) (started : os.Started) (H : Type) (enc : TypeId × Value → H) :
    ReturnsInHanded {} Try.checked os 8 .any (Rows.varintBadSpec.pre6 enc Try.prog Try.f8 Rows.varintBadRow.domain false) (Rows.varintBadSpec.post enc Try.prog Try.f8 false true false false) := by
  refine returnsInHanded_of_change_sized (C := Try.checked) own started (by kernel_rfl) Try.func8
    (ChangeSpec.witness6 (enc := enc) (C := Try.checked) false ⟨#[], #[.string ByteArray.empty, .slice none 0 0], []⟩ 8 (by kernel_rfl) (by kernel_rfl) (by kernel_rfl) (by kernel_rfl)) ?_
  intro W base args ds gs before hval0 hW _ hsz0 _
  have hsz : (DataW.weightsEach Try.prog (Try.f8.params.toList ++ Rows.varintBadSpec.plain.varTypes Try.prog) (ds ++ gs)).all (· ≤ reachBytes) = true := hsz0
  have hval : ∀ (j : Nat) t v, Try.f8.params[j]? = some t → args[j]? = some v → Value.okWide Try.prog W .any base t v := hval0
  have hW' := hW
  obtain ⟨p, q, hA0, hV, rfl, hfz, hnd⟩ := hW
  have hA : DataW.TrodAll enc Try.prog W 0 (fun _ => true) true Try.f8.params.toList args.toList ds p := hA0
  rw [Try.params8] at hA hval hsz
  obtain ⟨v0, vs0, d0, ds0, p0, q0, hargs, rfl, rfl, h0, r0⟩ := trodAll_cons hA
  obtain ⟨v1, vs1, d1, ds1, p1, q1, rfl, rfl, rfl, h1, r1⟩ := trodAll_cons r0
  obtain ⟨rfl, rfl, rfl⟩ := trodAll_nil r1
  obtain rfl : args = #[v0, v1] := by cases args; simp_all
  obtain ⟨rfl, rfl⟩ := trodVars_none hV
  have k0 := h0
  have lt0 : ∀ x ∈ p0, x.block < W.heap.size := by obtain ⟨m, hm⟩ := k0; exact DataW.trod_lt m _ _ _ hm
  have k1 := h1
  have lt1 : ∀ x ∈ p1, x.block < W.heap.size := by obtain ⟨m, hm⟩ := k1; exact DataW.trod_lt m _ _ _ hm
  obtain ⟨a0, rfl, rfl, rfl, w0⟩ := open_string Try.underlying9 (hval 0 9 v0 rfl rfl) h0
  have b0 := sized_of (sized_string hsz (j := 0) (t := 9) rfl rfl)
  obtain ⟨a1, len1, cap1, rfl⟩ := okWide_slice Try.underlying26 (hval 1 26 v1 rfl rfl)
  obtain ⟨z1, b1⟩ := takes_of k1 lt1 (fun el sp hd => sized_slice hsz (j := 1) (t := 26) rfl (by simpa using hd) Try.underlying26)
  clear hA0 hval0 hsz0 hsz
  refine (walk a0 a1 len1 cap1 z1 W b0 b1).mono fun e W' ⟨he, bel⟩ => ?_
  subst he
  exact ⟨_, rfl, _, _, _, [], _, [], hW', trodAll_mk1 (shut_bool Try.underlying4 _), (trodAll_cons_mk (Below.trod laidOut (by kernel_rfl) (of_decide_eq_true (by kernel_rfl)) k0 bel lt0) (trodAll_cons_mk (Below.trod laidOut (by kernel_rfl) (of_decide_eq_true (by kernel_rfl)) k1 bel lt1) trodAll_mk0)), rfl, bel.frame _, fun h => by cases h⟩

theorem over : Rows.varintBadRow.holds Try.pinned (OpenSpec.ofChange Rows.varintBadSpec) :=
  OpenClaim.holds_of_wide 8 Try.f8 rfl rfl rfl rfl rfl rfl rfl ⟨rfl, rfl, rfl, rfl, rfl⟩ rfl rfl rfl rfl rfl (by kernel_rfl) Try.func8 (by kernel_rfl)
    (of_decide_eq_true (by kernel_rfl)) (by unfold Func.isWrapper; first | (rw [if_pos (by decide +kernel)]; kernel_rfl) | (rw [if_neg (by decide +kernel)]; exact ⟨rfl, rfl⟩))
    (fun os started H enc _ => lifted os started H enc)

theorem proved : Rows.VarintBadSaid := over
end Go.Proofs.Ytdnlpjmjhlmjgaa.lawBadL
