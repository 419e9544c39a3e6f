/-
  The statement VarintMost is proved for every text and numbers: a text that is longer than may be, or of which bytes are wanting, is none; the number of its length is taken all the same. No condition.
-/
import Derived.Test.YtdnlpjmjhlmjgaaText
import Derived.Test.YtdnlpjmjhlmjgaaFrame
import Derived.Test.YtdnlpjmjhlmjgaaRows
namespace Go.Proofs.Ytdnlpjmjhlmjgaa.lawMost
open Go.ChangeShapes Go.WideShapes Go.ChangeAt Go.RowKit
open Go.ChangeMaps (open_string shut_string)

/-- Which of k + 1 things a raw number speaks of. -/
def pk (c : Int) (k : Nat) : Nat := ((if c < 0 then -(c + 1) else c) % ((k : Int) + 1)).toNat
theorem pk_le (c : Int) (k : Nat) : pk c k ≤ k := by
  unfold pk
  have h1 := Int.emod_lt_of_pos (if c < 0 then -(c + 1) else c) (show (0 : Int) < (k : Int) + 1 by omega)
  omega
theorem pk_eq (c : Int) (k : Nat) : ((pk c k : Nat) : Int) = (if c < 0 then -(c + 1) else c) % ((k : Int) + 1) := by
  unfold pk
  have h0 := Int.emod_nonneg (if c < 0 then -(c + 1) else c) (show ((k : Int) + 1) ≠ 0 by omega)
  omega

theorem pick_any (c : Int) (k : Nat) (hk : k ≤ 140737488351232) (hc : Vm.In c) (w : World) :
    Calls Try.prog 30 #[.int .i64 c, .int .i64 ((k : Int) + 1)] w fun e w' => e = .returned (.int .i64 ((pk c k : Nat) : Int)) ∧ w = w' := by
  have hp := pk_eq c k
  obtain ⟨h1, h2⟩ := hc
  by_cases h0 : c < 0
  · rw [if_pos h0] at hp
    have HP := Lib.hid hp
    clear hp
    go_enter Try.func30, Try.ntmps30
    go_wp2
    go_ret
    exact ⟨ret_int (by rw [HP.out, ← Int.neg_tmod, Int.tmod_eq_emod_of_nonneg (by omega)]), rfl⟩
  · rw [if_neg h0] at hp
    have HP := Lib.hid hp
    clear hp
    go_enter Try.func30, Try.ntmps30
    go_wp2
    go_ret
    exact ⟨ret_int HP.out.symm, rfl⟩


theorem take_all (s : ByteArray) : S (s.data.toList.take s.size) = s := by
  rw [List.take_of_length_le (by rw [← Lib.size_eq]; exact Nat.le_refl _), S_eq]

set_option maxRecDepth 100000 in
set_option maxHeartbeats 4000000 in
theorem walk_at (s : ByteArray) (most cut : Int) (m c : Nat) (w : World) (hs : s.size ≤ 140737488351232) (h1 : Vm.In most) (h2 : Vm.In cut) (hm : m = pk most s.size) (hc : c = pk cut s.size)
    (hma : m < s.size ∨ m = s.size) (hca : c < s.size ∨ c = s.size) :
    Calls Try.prog 11 #[.string s, .int .i64 most, .int .i64 cut] w fun e w' => e = .returned (.bool true) ∧ Below w.heap.size w w' := by
  have hin : Vm.In (s.size : Int) := In_size (by omega)
  obtain ⟨T, hT⟩ : ∃ T, S (Vm.enc s.size ++ s.data.toList) = T := ⟨_, rfl⟩
  obtain ⟨k, hk⟩ : ∃ k, (Vm.enc s.size).length = k := ⟨_, rfl⟩
  have hk1 := (Vm.enc_length s.size).1
  have hk2 := (Vm.enc_length s.size).2
  have hTs : T.size = k + s.size := by rw [← hT, S_size, List.length_append, ← Lib.size_eq, hk]
  have hTc : Hid ((Vm.enc s.size ++ s.data.toList).take (k + c) = Vm.enc s.size ++ s.data.toList.take c) := Lib.hid (by
    rw [← hk, List.take_append, List.take_of_length_le (by omega)]
    congr 2; omega)
  rw [hk] at hk1 hk2
  have hsl : ∀ w, (Instr.slice 9 (.string T) none (some (.int .i64 ((k : Int) + (c : Int)))) none).run Try.prog w = .ok (.string (S (Vm.enc s.size ++ s.data.toList.take c))) w := fun w => by
    have := slice_to T (k + c) (by omega) w
    rw [← hT, S_list, hTc.out, hT] at this
    rw [← this]; congr 6
  have hra : Hid (Vm.rd T.data.toList = some ((s.size : Int), s.data.toList)) := Lib.hid (by rw [← hT, S_list]; exact Vm.rd_enc hin _)
  have hrb : Hid (Vm.rd (S (Vm.enc s.size ++ s.data.toList.take c)).data.toList = some ((s.size : Int), s.data.toList.take c)) := Lib.hid (by rw [S_list]; exact Vm.rd_enc hin _)
  have hlT : T.size ≤ 4611686018427387904 := by omega
  have hlb : (S (Vm.enc s.size ++ s.data.toList.take c)).size ≤ 4611686018427387904 := by
    rw [S_size, List.length_append, List.length_take, ← Lib.size_eq, hk]; omega
  have hll : s.data.toList.length = s.size := (Lib.size_eq s).symm
  have HT := Lib.hid hT
  have HM := Lib.hid hm
  have HC := Lib.hid hc
  have HI1 := Lib.hid h1
  have HI2 := Lib.hid h2
  have HL := Lib.hid hll
  clear hT hk hTc hin hm hc h1 h2 hll
  rcases hma with hma | rfl
  · rcases hca with hca | rfl
    · go_enter Try.func11, Try.ntmps11
      go_wp2_with (go_at_call 13; refine (awake_any _).mono ?_; rintro e w1 ⟨rfl, hb1⟩)
      refine (text_any s (by omega) _).mono ?_
      rintro e w2 ⟨rfl, hb2⟩
      rw [HT.out]
      go_wp2_with fail
      refine (pick_any most s.size hs HI1.out _).mono ?_
      rintro e w3 ⟨rfl, rfl⟩
      rw [← HM.out]
      go_wp2_with fail
      refine (new_any _ _).mono ?_
      rintro e w4 ⟨rfl, rfl⟩
      go_wp2_with fail
      refine (pick_any cut s.size hs HI2.out _).mono ?_
      rintro e w5 ⟨rfl, rfl⟩
      rw [← HC.out]
      go_wp2_with fail
      refine (new_any _ _).mono ?_
      rintro e w6 ⟨rfl, rfl⟩
      have hb : Below w.heap.size w w2 := hb1.trans (hb2.mono hb1.size)
      have hbs := hb.size
      have ra := (RdAt.new 49 w2 T false).grown (World.grownBy_alloc _ (.cells #[.string (S (Vm.enc s.size ++ s.data.toList.take c)), .bool false] 49) none) (by simp)
      have rb := RdAt.new 49 (w2.alloc (.cells #[.string T, .bool false] 49)) (S (Vm.enc s.size ++ s.data.toList.take c)) false
      rw [World.size_alloc] at rb
      have hb6 : Below w.heap.size w ((w2.alloc (.cells #[.string T, .bool false] 49)).alloc (.cells #[.string (S (Vm.enc s.size ++ s.data.toList.take c)), .bool false] 49)) := (hb.alloc hb.size _).alloc (by simp; omega) _
      go_wp2_with fail
      refine (rtext_no w2.heap.size T hlT (m : Int) (s.size : Int) _ _ ra hra.out (.inr (.inl (by omega)))).mono ?_
      rintro e w7 ⟨rfl, r7, g7⟩
      have rb7 := rb.grown g7 (by simp)
      have hb7 := hb6.grown g7 (by simp; omega) (fun k e => by cases e; exact hb.size)
      go_wp2_with fail
      refine (rtext_no (w2.heap.size + 1) _ hlb (s.size : Int) (s.size : Int) _ _ rb7 hrb.out (.inr (.inr (by rw [List.length_take, HL.out]; omega)))).mono ?_
      rintro e w8 ⟨rfl, r8, g8⟩
      have ra8 := r7.grown g8 (by simp)
      have hb8 := hb7.grown g8 (by have := g7.size; simp at this; omega) (fun k e => by cases e; omega)
      go_wp2_with fail
      refine (pick_any cut s.size hs HI2.out _).mono ?_
      rintro e w9 ⟨rfl, rfl⟩
      rw [← HC.out]
      have ca0 := ra8.cell0
      have ca1 := ra8.cell1
      have cb1 := r8.cell1
      go_wp2_with fail
      refine (bad_any _ _ _ ca1).mono ?_
      rintro e w10 ⟨rfl, rfl⟩
      go_wp2_with fail
      refine (left_any _ _ _ ca0).mono ?_
      rintro e w10 ⟨rfl, rfl⟩
      go_wp2_with fail
      refine (bad_any _ _ _ cb1).mono ?_
      rintro e w11 ⟨rfl, rfl⟩
      go_wp2
      have e1 : ((m : Int) == (s.size : Int)) = false := by rw [beq_eq_false_iff_ne]; omega
      have e2 : ((c : Int) == (s.size : Int)) = false := by rw [beq_eq_false_iff_ne]; omega
      go_ret
      exact ⟨ret_bool (by rw [e1, e2]; simp), hb8⟩
    · go_enter Try.func11, Try.ntmps11
      go_wp2_with (go_at_call 13; refine (awake_any _).mono ?_; rintro e w1 ⟨rfl, hb1⟩)
      refine (text_any s (by omega) _).mono ?_
      rintro e w2 ⟨rfl, hb2⟩
      rw [HT.out]
      go_wp2_with fail
      refine (pick_any most s.size hs HI1.out _).mono ?_
      rintro e w3 ⟨rfl, rfl⟩
      rw [← HM.out]
      go_wp2_with fail
      refine (new_any _ _).mono ?_
      rintro e w4 ⟨rfl, rfl⟩
      go_wp2_with fail
      refine (pick_any cut s.size hs HI2.out _).mono ?_
      rintro e w5 ⟨rfl, rfl⟩
      rw [← HC.out]
      go_wp2_with fail
      refine (new_any _ _).mono ?_
      rintro e w6 ⟨rfl, rfl⟩
      have hb : Below w.heap.size w w2 := hb1.trans (hb2.mono hb1.size)
      have hbs := hb.size
      have ra := (RdAt.new 49 w2 T false).grown (World.grownBy_alloc _ (.cells #[.string (S (Vm.enc s.size ++ s.data.toList.take s.size)), .bool false] 49) none) (by simp)
      have rb := RdAt.new 49 (w2.alloc (.cells #[.string T, .bool false] 49)) (S (Vm.enc s.size ++ s.data.toList.take s.size)) false
      rw [World.size_alloc] at rb
      have hb6 : Below w.heap.size w ((w2.alloc (.cells #[.string T, .bool false] 49)).alloc (.cells #[.string (S (Vm.enc s.size ++ s.data.toList.take s.size)), .bool false] 49)) := (hb.alloc hb.size _).alloc (by simp; omega) _
      go_wp2_with fail
      refine (rtext_no w2.heap.size T hlT (m : Int) (s.size : Int) _ _ ra hra.out (.inr (.inl (by omega)))).mono ?_
      rintro e w7 ⟨rfl, r7, g7⟩
      have rb7 := rb.grown g7 (by simp)
      have hb7 := hb6.grown g7 (by simp; omega) (fun k e => by cases e; exact hb.size)
      go_wp2_with fail
      refine (rtext_ok (w2.heap.size + 1) _ hlb (s.size : Int) s.size _ _ rb7 hrb.out (Int.le_refl _) (by rw [List.length_take, HL.out]; omega) (by omega)).mono ?_
      rintro e w8 ⟨rfl, r8, g8⟩
      rw [List.take_take, Nat.min_self, take_all s]
      have ra8 := r7.grown g8 (by simp)
      have hb8 := hb7.grown g8 (by have := g7.size; simp at this; omega) (fun k e => by cases e; omega)
      go_wp2_with fail
      refine (pick_any cut s.size hs HI2.out _).mono ?_
      rintro e w9 ⟨rfl, rfl⟩
      rw [← HC.out]
      have ca0 := ra8.cell0
      have ca1 := ra8.cell1
      have cb1 := r8.cell1
      go_wp2_with fail
      refine (bad_any _ _ _ ca1).mono ?_
      rintro e w10 ⟨rfl, rfl⟩
      go_wp2_with fail
      refine (left_any _ _ _ ca0).mono ?_
      rintro e w10 ⟨rfl, rfl⟩
      go_wp2_with fail
      refine (bad_any _ _ _ cb1).mono ?_
      rintro e w11 ⟨rfl, rfl⟩
      go_wp2
      have e1 : ((m : Int) == (s.size : Int)) = false := by rw [beq_eq_false_iff_ne]; omega
      go_ret
      exact ⟨ret_bool (by rw [e1]; simp), hb8⟩
  · rcases hca with hca | rfl
    · go_enter Try.func11, Try.ntmps11
      go_wp2_with (go_at_call 13; refine (awake_any _).mono ?_; rintro e w1 ⟨rfl, hb1⟩)
      refine (text_any s (by omega) _).mono ?_
      rintro e w2 ⟨rfl, hb2⟩
      rw [HT.out]
      go_wp2_with fail
      refine (pick_any most s.size hs HI1.out _).mono ?_
      rintro e w3 ⟨rfl, rfl⟩
      rw [← HM.out]
      go_wp2_with fail
      refine (new_any _ _).mono ?_
      rintro e w4 ⟨rfl, rfl⟩
      go_wp2_with fail
      refine (pick_any cut s.size hs HI2.out _).mono ?_
      rintro e w5 ⟨rfl, rfl⟩
      rw [← HC.out]
      go_wp2_with fail
      refine (new_any _ _).mono ?_
      rintro e w6 ⟨rfl, rfl⟩
      have hb : Below w.heap.size w w2 := hb1.trans (hb2.mono hb1.size)
      have hbs := hb.size
      have ra := (RdAt.new 49 w2 T false).grown (World.grownBy_alloc _ (.cells #[.string (S (Vm.enc s.size ++ s.data.toList.take c)), .bool false] 49) none) (by simp)
      have rb := RdAt.new 49 (w2.alloc (.cells #[.string T, .bool false] 49)) (S (Vm.enc s.size ++ s.data.toList.take c)) false
      rw [World.size_alloc] at rb
      have hb6 : Below w.heap.size w ((w2.alloc (.cells #[.string T, .bool false] 49)).alloc (.cells #[.string (S (Vm.enc s.size ++ s.data.toList.take c)), .bool false] 49)) := (hb.alloc hb.size _).alloc (by simp; omega) _
      go_wp2_with fail
      refine (rtext_ok w2.heap.size T hlT (s.size : Int) s.size _ _ ra hra.out (Int.le_refl _) (by rw [HL.out]; exact Nat.le_refl _) (by omega)).mono ?_
      rintro e w7 ⟨rfl, r7, g7⟩
      rw [take_all s]
      have rb7 := rb.grown g7 (by simp)
      have hb7 := hb6.grown g7 (by simp; omega) (fun k e => by cases e; exact hb.size)
      go_wp2_with fail
      refine (rtext_no (w2.heap.size + 1) _ hlb (s.size : Int) (s.size : Int) _ _ rb7 hrb.out (.inr (.inr (by rw [List.length_take, HL.out]; omega)))).mono ?_
      rintro e w8 ⟨rfl, r8, g8⟩
      have ra8 := r7.grown g8 (by simp)
      have hb8 := hb7.grown g8 (by have := g7.size; simp at this; omega) (fun k e => by cases e; omega)
      go_wp2_with fail
      refine (pick_any cut s.size hs HI2.out _).mono ?_
      rintro e w9 ⟨rfl, rfl⟩
      rw [← HC.out]
      have ca0 := ra8.cell0
      have ca1 := ra8.cell1
      have cb1 := r8.cell1
      go_wp2_with fail
      refine (bad_any _ _ _ ca1).mono ?_
      rintro e w10 ⟨rfl, rfl⟩
      go_wp2_with fail
      refine (bad_any _ _ _ cb1).mono ?_
      rintro e w11 ⟨rfl, rfl⟩
      go_wp2
      have e2 : ((c : Int) == (s.size : Int)) = false := by rw [beq_eq_false_iff_ne]; omega
      go_ret
      exact ⟨ret_bool (by rw [e2]; rfl), hb8⟩
    · go_enter Try.func11, Try.ntmps11
      go_wp2_with (go_at_call 13; refine (awake_any _).mono ?_; rintro e w1 ⟨rfl, hb1⟩)
      refine (text_any s (by omega) _).mono ?_
      rintro e w2 ⟨rfl, hb2⟩
      rw [HT.out]
      go_wp2_with fail
      refine (pick_any most s.size hs HI1.out _).mono ?_
      rintro e w3 ⟨rfl, rfl⟩
      rw [← HM.out]
      go_wp2_with fail
      refine (new_any _ _).mono ?_
      rintro e w4 ⟨rfl, rfl⟩
      go_wp2_with fail
      refine (pick_any cut s.size hs HI2.out _).mono ?_
      rintro e w5 ⟨rfl, rfl⟩
      rw [← HC.out]
      go_wp2_with fail
      refine (new_any _ _).mono ?_
      rintro e w6 ⟨rfl, rfl⟩
      have hb : Below w.heap.size w w2 := hb1.trans (hb2.mono hb1.size)
      have hbs := hb.size
      have ra := (RdAt.new 49 w2 T false).grown (World.grownBy_alloc _ (.cells #[.string (S (Vm.enc s.size ++ s.data.toList.take s.size)), .bool false] 49) none) (by simp)
      have rb := RdAt.new 49 (w2.alloc (.cells #[.string T, .bool false] 49)) (S (Vm.enc s.size ++ s.data.toList.take s.size)) false
      rw [World.size_alloc] at rb
      have hb6 : Below w.heap.size w ((w2.alloc (.cells #[.string T, .bool false] 49)).alloc (.cells #[.string (S (Vm.enc s.size ++ s.data.toList.take s.size)), .bool false] 49)) := (hb.alloc hb.size _).alloc (by simp; omega) _
      go_wp2_with fail
      refine (rtext_ok w2.heap.size T hlT (s.size : Int) s.size _ _ ra hra.out (Int.le_refl _) (by rw [HL.out]; exact Nat.le_refl _) (by omega)).mono ?_
      rintro e w7 ⟨rfl, r7, g7⟩
      rw [take_all s]
      have rb7 := rb.grown g7 (by simp)
      have hb7 := hb6.grown g7 (by simp; omega) (fun k e => by cases e; exact hb.size)
      go_wp2_with fail
      refine (rtext_ok (w2.heap.size + 1) _ hlb (s.size : Int) s.size _ _ rb7 hrb.out (Int.le_refl _) (by rw [List.length_take, HL.out]; omega) (by omega)).mono ?_
      rintro e w8 ⟨rfl, r8, g8⟩
      rw [List.take_take, Nat.min_self, take_all s]
      have ra8 := r7.grown g8 (by simp)
      have hb8 := hb7.grown g8 (by have := g7.size; simp at this; omega) (fun k e => by cases e; omega)
      go_wp2_with fail
      refine (pick_any cut s.size hs HI2.out _).mono ?_
      rintro e w9 ⟨rfl, rfl⟩
      rw [← HC.out]
      have ca0 := ra8.cell0
      have ca1 := ra8.cell1
      have cb1 := r8.cell1
      go_wp2_with fail
      refine (bad_any _ _ _ ca1).mono ?_
      rintro e w10 ⟨rfl, rfl⟩
      go_wp2_with fail
      refine (bad_any _ _ _ cb1).mono ?_
      rintro e w11 ⟨rfl, rfl⟩
      go_wp2
      go_ret
      exact ⟨rfl, hb8⟩

theorem walk (s : ByteArray) (most cut : Int) (w : World) (hs : s.size ≤ 140737488351232) (h1 : Vm.In most) (h2 : Vm.In cut) :
    Calls Try.prog 11 #[.string s, .int .i64 most, .int .i64 cut] w fun e w' => e = .returned (.bool true) ∧ Below w.heap.size w w' := by
  have a := pk_le most s.size
  have b := pk_le cut s.size
  exact walk_at s most cut _ _ w hs h1 h2 rfl rfl (by omega) (by omega)

theorem own : ownKnob Try.prog.godebug = none := by kernel_rfl
theorem laidOut : laidOutB Try.prog = true := by kernel_rfl

set_option maxRecDepth 100000 in
theorem lifted (os : Os) (started : os.Started) (H : Type) (enc : TypeId × Value → H) :
    ReturnsInHanded {} Try.checked os 11 .any (Rows.varintMostSpec.pre6 enc Try.prog Try.f11 Rows.varintMostRow.domain false) (Rows.varintMostSpec.post enc Try.prog Try.f11 false true false false) := by
  refine returnsInHanded_of_change_sized (C := Try.checked) own started (by kernel_rfl) Try.func11
    (ChangeSpec.witness6 (enc := enc) (C := Try.checked) false ⟨#[], #[.string ByteArray.empty, .int .i64 0, .int .i64 0], []⟩ 8 (by kernel_rfl) (by kernel_rfl) (by kernel_rfl) (by kernel_rfl)) ?_
  intro W base args ds gs before hval0 hW _ hsz0 _
  have hsz : (DataW.weightsEach Try.prog (Try.f11.params.toList ++ Rows.varintMostSpec.plain.varTypes Try.prog) (ds ++ gs)).all (· ≤ reachBytes) = true := hsz0
  have hval : ∀ (j : Nat) t v, Try.f11.params[j]? = some t → args[j]? = some v → Value.okWide Try.prog W .any base t v := hval0
  have hW' := hW
  obtain ⟨p, q, hA0, hV, rfl, hfz, hnd⟩ := hW
  have hA : DataW.TrodAll enc Try.prog W 0 (fun _ => true) true Try.f11.params.toList args.toList ds p := hA0
  rw [Try.params11] at hA hval hsz
  obtain ⟨v0, vs0, d0, ds0, p0, q0, hargs, rfl, rfl, h0, r0⟩ := trodAll_cons hA
  obtain ⟨v1, vs1, d1, ds1, p1, q1, rfl, rfl, rfl, h1, r1⟩ := trodAll_cons r0
  obtain ⟨v2, vs2, d2, ds2, p2, q2, rfl, rfl, rfl, h2, r2⟩ := trodAll_cons r1
  obtain ⟨rfl, rfl, rfl⟩ := trodAll_nil r2
  obtain rfl : args = #[v0, v1, v2] := by cases args; simp_all
  obtain ⟨rfl, rfl⟩ := trodVars_none hV
  have k0 := h0
  have lt0 : ∀ x ∈ p0, x.block < W.heap.size := by obtain ⟨m, hm⟩ := k0; exact DataW.trod_lt m _ _ _ hm
  have k1 := h1
  have lt1 : ∀ x ∈ p1, x.block < W.heap.size := by obtain ⟨m, hm⟩ := k1; exact DataW.trod_lt m _ _ _ hm
  have k2 := h2
  have lt2 : ∀ x ∈ p2, x.block < W.heap.size := by obtain ⟨m, hm⟩ := k2; exact DataW.trod_lt m _ _ _ hm
  obtain ⟨a0, rfl, rfl, rfl, w0⟩ := open_string Try.underlying9 (hval 0 9 v0 rfl rfl) h0
  have b0 := sized_of (sized_string hsz (j := 0) (t := 9) rfl rfl)
  obtain ⟨a1, rfl, rfl, rfl, w1⟩ := open_int Try.underlying3 (hval 1 3 v1 rfl rfl) h1
  have b1 := in_of_wf w1
  obtain ⟨a2, rfl, rfl, rfl, w2⟩ := open_int Try.underlying3 (hval 2 3 v2 rfl rfl) h2
  have b2 := in_of_wf w2
  clear hA0 hval0 hsz0 hsz
  refine (walk a0 a1 a2 W b0 b1 b2).mono fun e W' ⟨he, bel⟩ => ?_
  subst he
  exact ⟨_, rfl, _, _, _, [], _, [], hW', trodAll_mk1 (shut_bool Try.underlying4 _), (trodAll_cons_mk (Below.trod laidOut (by kernel_rfl) (of_decide_eq_true (by kernel_rfl)) k0 bel lt0) (trodAll_cons_mk (Below.trod laidOut (by kernel_rfl) (of_decide_eq_true (by kernel_rfl)) k1 bel lt1) (trodAll_cons_mk (Below.trod laidOut (by kernel_rfl) (of_decide_eq_true (by kernel_rfl)) k2 bel lt2) trodAll_mk0))), rfl, bel.frame _, fun h => by cases h⟩

theorem over : Rows.varintMostRow.holds Try.pinned (OpenSpec.ofChange Rows.varintMostSpec) :=
  OpenClaim.holds_of_wide 11 Try.f11 rfl rfl rfl rfl rfl rfl rfl ⟨rfl, rfl, rfl, rfl, rfl⟩ rfl rfl rfl rfl rfl (by kernel_rfl) Try.func11 (by kernel_rfl)
    (of_decide_eq_true (by kernel_rfl)) (by unfold Func.isWrapper; first | (rw [if_pos (by decide +kernel)]; kernel_rfl) | (rw [if_neg (by decide +kernel)]; exact ⟨rfl, rfl⟩))
    (fun os started H enc _ => lifted os started H enc)

theorem proved : Rows.VarintMostSaid := over
end Go.Proofs.Ytdnlpjmjhlmjgaa.lawMost
