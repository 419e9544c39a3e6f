/-
  The statement VarintMore is proved for every number and texts: what stands behind a number or a text changes nothing for it. No condition.
-/
import Derived.Test.YtdnlpjmjhlmjgaaText
import Derived.Test.YtdnlpjmjhlmjgaaFrame
import Derived.Test.YtdnlpjmjhlmjgaaRows
namespace Go.Proofs.Ytdnlpjmjhlmjgaa.lawMore
open Go.ChangeShapes Go.WideShapes Go.ChangeAt Go.RowKit
open Go.ChangeMaps (open_string shut_string)

theorem empty_same (t : ByteArray) : (decide (t = ByteArray.empty) == t.toList.isEmpty) = true := by
  rw [Lib.toList_data]
  by_cases h : t.data.toList = []
  · obtain rfl : t = ByteArray.empty := by
      rw [← S_eq t, h]; rfl
    rfl
  · have h1 : t ≠ ByteArray.empty := fun e => h (by rw [e]; rfl)
    simp [h1]
    intro e
    exact h (by simp [e])

set_option maxHeartbeats 1000000 in
theorem walk (n : Int) (s t : ByteArray) (w : World) (hn : Vm.In n) (hs : s.size ≤ 140737488351232) (ht : t.size ≤ 140737488351232) :
    Calls Try.prog 10 #[.int .i64 n, .string s, .string t] w fun e w' => e = .returned (.bool true) ∧ Below w.heap.size w w' := by
  have l1 : (S (Vm.enc n)).size ≤ 10 := by rw [S_size]; exact (Vm.enc_length n).2
  have hin : Vm.In (s.size : Int) := In_size (by omega)
  have l2 : (S (Vm.enc s.size ++ s.data.toList)).size ≤ 140737488351300 := by
    rw [S_size, List.length_append, ← Lib.size_eq]; have := (Vm.enc_length s.size).2; omega
  obtain ⟨L, hL⟩ : ∃ L, Vm.enc n ++ (Vm.enc s.size ++ (s.data.toList ++ t.data.toList)) = L := ⟨_, rfl⟩
  have HX : Hid (S (Vm.enc n) ++ S (Vm.enc s.size ++ s.data.toList) ++ t = S L) := Lib.hid (by
    rw [S_append, S_append, S_list, ← hL, List.append_assoc, List.append_assoc])
  have hL1 : Hid (Vm.rd (S L).data.toList = some (n, Vm.enc s.size ++ (s.data.toList ++ t.data.toList))) := Lib.hid (by
    rw [S_list, ← hL]; exact Vm.rd_enc hn _)
  have hL2 : Hid (Vm.rd (S (Vm.enc s.size ++ (s.data.toList ++ t.data.toList))).data.toList = some ((s.size : Int), s.data.toList ++ t.data.toList)) := Lib.hid (by
    rw [S_list]; exact Vm.rd_enc hin _)
  have hlL : (S L).size ≤ 4611686018427387904 := by
    rw [S_size, ← hL]
    simp only [List.length_append, ← Lib.size_eq]
    have := (Vm.enc_length s.size).2; have := (Vm.enc_length n).2; omega
  have hl2 : (S (Vm.enc s.size ++ (s.data.toList ++ t.data.toList))).size ≤ 4611686018427387904 := by
    rw [S_size]
    simp only [List.length_append, ← Lib.size_eq]
    have := (Vm.enc_length s.size).2; omega
  have e1 : Hid (S ((s.data.toList ++ t.data.toList).take s.size) = s) := Lib.hid (by
    rw [List.take_append_of_le_length (by rw [← Lib.size_eq]; exact Nat.le_refl _), List.take_of_length_le (by rw [← Lib.size_eq]; exact Nat.le_refl _), S_eq])
  have e2 : Hid (S ((s.data.toList ++ t.data.toList).drop s.size) = t) := Lib.hid (by
    have h := Lib.size_eq s
    rw [h, List.drop_left, S_eq])
  have hle : s.size ≤ (s.data.toList ++ t.data.toList).length := by rw [List.length_append, ← Lib.size_eq]; omega
  have HN := Lib.hid hn
  have HL := Lib.hid hle
  clear hL hn hin hle
  go_enter Try.func10, Try.ntmps10
  go_wp2_with (go_at_call 13; refine (awake_any _).mono ?_; rintro e w1 ⟨rfl, hb1⟩)
  refine (num_any _ HN.out _).mono ?_
  rintro e w2 ⟨rfl, hb2⟩
  go_wp2_with fail
  refine (text_any s (by omega) _).mono ?_
  rintro e w3 ⟨rfl, hb3⟩
  go_wp2_with fail
  rw [HX.out]
  refine (new_any _ _).mono ?_
  rintro e w4 ⟨rfl, rfl⟩
  have hb : Below w.heap.size w w3 := hb1.trans ((hb2.trans (hb3.mono hb2.size)).mono hb1.size)
  have r0 := RdAt.new 49 w3 (S L) false
  go_wp2_with fail
  refine (rnum_ok w3.heap.size (S L) hlL n _ _ r0 hL1.out).mono ?_
  rintro e w5 ⟨rfl, r5, g5⟩
  go_wp2_with fail
  refine (rtext_ok w3.heap.size _ hl2 (s.size : Int) s.size _ _ r5 hL2.out (Int.le_refl _) HL.out (by omega)).mono ?_
  rintro e w6 ⟨rfl, r6, g6⟩
  rw [e1.out]
  rw [e2.out] at r6
  have c0 := r6.cell0
  have c1 := r6.cell1
  have hb6 : Below w.heap.size w w6 := (((hb.alloc hb.size _).grown g5 (by have := hb.size; simp; omega) (fun k e => by cases e; exact hb.size)).grown g6 (Nat.le_trans (by have := hb.size; simp; omega) g5.size) (fun k e => by cases e; exact hb.size))
  go_wp2_with (first
    | (go_at_call 24; refine (left_any _ _ _ c0).mono ?_; rintro e w7 ⟨rfl, rfl⟩)
    | (go_at_call 26; refine (bad_any _ _ _ c1).mono ?_; rintro e w7 ⟨rfl, rfl⟩)
    | (go_at_call 28; refine (ends_good _ _ _ c1 c0).mono ?_; rintro e w7 ⟨rfl, rfl⟩))
  go_ret
  exact ⟨ret_bool (empty_same t), hb6⟩

theorem own : ownKnob Try.prog.godebug = none := by kernel_rfl
theorem laidOut : laidOutB Try.prog = true := by kernel_rfl

set_option maxRecDepth 100000 in
theorem lifted (os : Os) (started : os.Started) (H : Type) (enc : TypeId × Value → H) :
    ReturnsInHanded {} Try.checked os 10 .any (Rows.varintMoreSpec.pre6 enc Try.prog Try.f10 Rows.varintMoreRow.domain false) (Rows.varintMoreSpec.post enc Try.prog Try.f10 false true false false) := by
  refine returnsInHanded_of_change_sized (C := Try.checked) own started (by kernel_rfl) Try.func10
    (ChangeSpec.witness6 (enc := enc) (C := Try.checked) false ⟨#[], #[.int .i64 0, .string ByteArray.empty, .string ByteArray.empty], []⟩ 8 (by kernel_rfl) (by kernel_rfl) (by kernel_rfl) (by kernel_rfl)) ?_
  intro W base args ds gs before hval0 hW _ hsz0 _
  have hsz : (DataW.weightsEach Try.prog (Try.f10.params.toList ++ Rows.varintMoreSpec.plain.varTypes Try.prog) (ds ++ gs)).all (· ≤ reachBytes) = true := hsz0
  have hval : ∀ (j : Nat) t v, Try.f10.params[j]? = some t → args[j]? = some v → Value.okWide Try.prog W .any base t v := hval0
  have hW' := hW
  obtain ⟨p, q, hA0, hV, rfl, hfz, hnd⟩ := hW
  have hA : DataW.TrodAll enc Try.prog W 0 (fun _ => true) true Try.f10.params.toList args.toList ds p := hA0
  rw [Try.params10] at hA hval hsz
  obtain ⟨v0, vs0, d0, ds0, p0, q0, hargs, rfl, rfl, h0, r0⟩ := trodAll_cons hA
  obtain ⟨v1, vs1, d1, ds1, p1, q1, rfl, rfl, rfl, h1, r1⟩ := trodAll_cons r0
  obtain ⟨v2, vs2, d2, ds2, p2, q2, rfl, rfl, rfl, h2, r2⟩ := trodAll_cons r1
  obtain ⟨rfl, rfl, rfl⟩ := trodAll_nil r2
  obtain rfl : args = #[v0, v1, v2] := by cases args; simp_all
  obtain ⟨rfl, rfl⟩ := trodVars_none hV
  have k0 := h0
  have lt0 : ∀ x ∈ p0, x.block < W.heap.size := by obtain ⟨m, hm⟩ := k0; exact DataW.trod_lt m _ _ _ hm
  have k1 := h1
  have lt1 : ∀ x ∈ p1, x.block < W.heap.size := by obtain ⟨m, hm⟩ := k1; exact DataW.trod_lt m _ _ _ hm
  have k2 := h2
  have lt2 : ∀ x ∈ p2, x.block < W.heap.size := by obtain ⟨m, hm⟩ := k2; exact DataW.trod_lt m _ _ _ hm
  obtain ⟨a0, rfl, rfl, rfl, w0⟩ := open_int Try.underlying3 (hval 0 3 v0 rfl rfl) h0
  have b0 := in_of_wf w0
  obtain ⟨a1, rfl, rfl, rfl, w1⟩ := open_string Try.underlying9 (hval 1 9 v1 rfl rfl) h1
  have b1 := sized_of (sized_string hsz (j := 1) (t := 9) rfl rfl)
  obtain ⟨a2, rfl, rfl, rfl, w2⟩ := open_string Try.underlying9 (hval 2 9 v2 rfl rfl) h2
  have b2 := sized_of (sized_string hsz (j := 2) (t := 9) rfl rfl)
  clear hA0 hval0 hsz0 hsz
  refine (walk a0 a1 a2 W b0 b1 b2).mono fun e W' ⟨he, bel⟩ => ?_
  subst he
  exact ⟨_, rfl, _, _, _, [], _, [], hW', trodAll_mk1 (shut_bool Try.underlying4 _), (trodAll_cons_mk (Below.trod laidOut (by kernel_rfl) (of_decide_eq_true (by kernel_rfl)) k0 bel lt0) (trodAll_cons_mk (Below.trod laidOut (by kernel_rfl) (of_decide_eq_true (by kernel_rfl)) k1 bel lt1) (trodAll_cons_mk (Below.trod laidOut (by kernel_rfl) (of_decide_eq_true (by kernel_rfl)) k2 bel lt2) trodAll_mk0))), rfl, bel.frame _, fun h => by cases h⟩

theorem over : Rows.varintMoreRow.holds Try.pinned (OpenSpec.ofChange Rows.varintMoreSpec) :=
  OpenClaim.holds_of_wide 10 Try.f10 rfl rfl rfl rfl rfl rfl rfl ⟨rfl, rfl, rfl, rfl, rfl⟩ rfl rfl rfl rfl rfl (by kernel_rfl) Try.func10 (by kernel_rfl)
    (of_decide_eq_true (by kernel_rfl)) (by unfold Func.isWrapper; first | (rw [if_pos (by decide +kernel)]; kernel_rfl) | (rw [if_neg (by decide +kernel)]; exact ⟨rfl, rfl⟩))
    (fun os started H enc _ => lifted os started H enc)

theorem proved : Rows.VarintMoreSaid := over
end Go.Proofs.Ytdnlpjmjhlmjgaa.lawMore
