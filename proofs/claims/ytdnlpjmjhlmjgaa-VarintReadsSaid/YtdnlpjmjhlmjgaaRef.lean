/-
  The document's own answers: Num, Text, New and the reader's fields.
-/
import Derived.OwnWalk
import Derived.Deep.QuietTactic
import Derived.BigQuiet
import Derived.Test.YtdnlpjmjhlmjgaaText
namespace Go.Proofs.Ytdnlpjmjhlmjgaa
open Go.RowKit Go.Shelf

theorem half_pos {m : Int} (h : 0 ≤ m) : m % 64 * 2 = ((Vm.zig m % 128 : Nat) : Int) ∧ m / 64 = ((Vm.zig m / 128 : Nat) : Int) := by
  unfold Vm.zig; rw [if_pos h]; omega
theorem half_neg {m : Int} (h : m < 0) : (-(m + 1)) % 64 * 2 + 1 = ((Vm.zig m % 128 : Nat) : Int) ∧ (-(m + 1)) / 64 = ((Vm.zig m / 128 : Nat) : Int) := by
  unfold Vm.zig; rw [if_neg (by omega)]; omega

theorem neg_rem (m : Int) (h : m < 0) : (m + 1).tmod 64 = -((-(m + 1)) % 64) := by
  have := Int.neg_tmod (-(m + 1)) 64
  rw [Int.tmod_eq_emod_of_nonneg (show 0 ≤ -(m + 1) by omega), Int.neg_neg] at this
  exact this
theorem neg_quo (m : Int) (h : m < 0) : (m + 1).tdiv 64 = -((-(m + 1)) / 64) := by
  have := Int.neg_tdiv (-(m + 1)) 64
  rw [Int.tdiv_eq_ediv_of_nonneg (show 0 ≤ -(m + 1) by omega), Int.neg_neg] at this
  exact this
theorem w64 (n : Int) : wrap64 n = (n + 9223372036854775808) % 18446744073709551616 - 9223372036854775808 := by unfold wrap64; omega

theorem conv_own {w : World} {base g cap n : Nat} {l : List UInt8} (hn : n = l.length) (h : w.ownsRow base 5 1 (.slice (some ⟨g, 0, none⟩) n cap) n (U l)) :
    (convert 44 9 (.slice (some ⟨g, 0, none⟩) n cap)).run Try.prog w = .ok (.string (S l)) w := by
  subst hn
  exact run_convert_bytes_back (P := Try.prog) w 44 9 5 ⟨g, 0, none⟩ cap l Try.underlying44 Try.underlying5 Try.underlying9 (fun j hj => by
    have h := h.cellAt j (by omega)
    have hp : (⟨g, 0, none⟩ : Addr).add j = ⟨g, j, none⟩ := by unfold Addr.add; split <;> simp_all
    rw [hp, h]
    simp [U, List.getElem?_eq_getElem hj])
theorem U_byte (pre : List UInt8) (z : Nat) (h : z < 256) (x : Int) (hx : x = (z : Int)) : U pre ++ [Value.int .u8 x] = U (pre ++ [UInt8.ofNat z]) := by
  rw [U_snoc, Vm.toNat_small h, hx]

set_option maxRecDepth 100000 in
set_option maxHeartbeats 1000000 in
theorem qnum_pos (m : Int) (hm : Vm.In m) (h0 : 0 ≤ m) (w : World) :
    Calls Try.prog 15 #[.int .i64 m] w fun e w' => e = .returned (.string (S (Vm.enc m))) ∧ Below w.heap.size w w' := by
  obtain ⟨i0, hi, hz0, hz1, hz2⟩ := info_parts infoU8
  have hz := Vm.zig_lt hm
  have hh := half_pos h0
  have h1 := hm.1
  have h2 := hm.2
  have HZ := Lib.hid hz
  have HH := Lib.hid hh
  clear hz hh hm
  go_enter Try.func15, Try.ntmps15
  go_wp2
  go_loopw [3, 4, 6] (fun lo re v wr => ∃ (f z : Nat) (pre : List UInt8), lo = .int .i64 ((z % 128 : Nat) : Int) ∧ re = .int .i64 ((z / 128 : Nat) : Int) ∧ z < 18446744073709551616 ∧ pre.length ≤ 9 ∧ pre.length + f = 9 ∧ z < 2 * 128 ^ f ∧ Vm.enc m = pre ++ Vm.encF f z ∧
      wr.ownsRow w.heap.size 5 1 v pre.length (U pre) ∧ Below w.heap.size w wr) (fun _ re _ _ => (intOf re).toNat)
  case atStart => exact ⟨9, Vm.zig m, [], by rw [HH.out.1], by rw [HH.out.2], by have := HZ.out; omega, by simp, rfl, HZ.out, rfl, World.ownsRow_nil _ _ _ _, Below.refl _ _⟩
  case round =>
    obtain ⟨f, z, pre, rfl, rfl, hz64, hp9, hf, hzf, he, hown, hB⟩ := hrel
    have HF := Lib.hid hf
    have HZF := Lib.hid hzf
    have HE := Lib.hid he
    clear hf hzf he
    have hrow : ∀ k, u6.ownBlock = some k → w.heap.size ≤ k := fun k hk => (hown.lt k hk).1
    by_cases hs : z < 128
    · have hre : ((z / 128 : Nat) : Int) ≤ 0 := by omega
      go_wp2_with (at_builtin; refine wpList_append_own _ rfl _ _ 44 rfl w.heap.size 5 i0 (.int .u8 0) 1 1 Try.underlying44 hi hz0 hz1 hz2 rfl (by decide) _ _ _ rfl (hown.alloc _) ⟨wr.heap.size, 0, none⟩ 1 1 [_] rfl rfl (cell_one_new _ _ _) (by simp [Value.oneCell']) (by unfold maxLen; omega) (by omega) (by have := hB.size; simp; omega) ?_; intro v' w1 hown' hgrow hnil; rw [U_byte pre z (by omega) _ (by omega)] at hown'; obtain ⟨g', cap', rfl⟩ := ownsRow_succ hown'; have hcv := conv_own (by simp) hown')
      go_ret
      exact ⟨ret_str (by rw [HE.out, Vm.encF_small f hs]), (hB.alloc hB.size _).grown hgrow (by have := hB.size; simp; omega) hrow⟩
    · obtain ⟨j, rfl⟩ : ∃ j, f = j + 1 := by
        cases f with
        | zero => have := HZF.out; omega
        | succ j => exact ⟨j, rfl⟩
      have hd := Lib.hid (Vm.div_lt j HZF.out)
      have hbig := Lib.hid (Vm.encF_big j hs)
      have hre : 0 < ((z / 128 : Nat) : Int) := by omega
      have hp8 : pre.length ≤ 8 := by have := HF.out; omega
      go_wp2_with (at_builtin; refine wpList_append_own _ rfl _ _ 44 rfl w.heap.size 5 i0 (.int .u8 0) 1 1 Try.underlying44 hi hz0 hz1 hz2 rfl (by decide) _ _ _ rfl (hown.alloc _) ⟨wr.heap.size, 0, none⟩ 1 1 [_] rfl rfl (cell_one_new _ _ _) (by simp [Value.oneCell']) (by unfold maxLen; omega) (by omega) (by have := hB.size; simp; omega) ?_; intro v' w1 hown' hgrow hnil; rw [U_byte pre (z % 128 + 128) (by omega) _ (by omega)] at hown')
      go_roundw
      case rel => exact ⟨j, z / 128, pre ++ [UInt8.ofNat (z % 128 + 128)], by go_num, by go_num, by omega, by simp; omega, by have := HF.out; simp; omega, hd.out, by rw [HE.out, hbig.out]; simp, by simpa using hown', (hB.alloc hB.size _).grown hgrow (by have := hB.size; simp; omega) hrow⟩
      case measure => simp [intOf]; omega

set_option maxRecDepth 100000 in
set_option maxHeartbeats 1000000 in
theorem qnum_neg (m : Int) (hm : Vm.In m) (h0 : m < 0) (w : World) :
    Calls Try.prog 15 #[.int .i64 m] w fun e w' => e = .returned (.string (S (Vm.enc m))) ∧ Below w.heap.size w w' := by
  obtain ⟨i0, hi, hz0, hz1, hz2⟩ := info_parts infoU8
  have hz := Vm.zig_lt hm
  have hh := half_neg h0
  have h1 := hm.1
  have h2 := hm.2
  have HZ := Lib.hid hz
  have HH := Lib.hid hh
  clear hz hh hm
  go_enter Try.func15, Try.ntmps15
  go_wp2
  go_loopw [3, 4, 6] (fun lo re v wr => ∃ (f z : Nat) (pre : List UInt8), lo = .int .i64 ((z % 128 : Nat) : Int) ∧ re = .int .i64 ((z / 128 : Nat) : Int) ∧ z < 18446744073709551616 ∧ pre.length ≤ 9 ∧ pre.length + f = 9 ∧ z < 2 * 128 ^ f ∧ Vm.enc m = pre ++ Vm.encF f z ∧
      wr.ownsRow w.heap.size 5 1 v pre.length (U pre) ∧ Below w.heap.size w wr) (fun _ re _ _ => (intOf re).toNat)
  case atStart => exact ⟨9, Vm.zig m, [], by rw [← HH.out.1]; congr 1; rw [neg_rem m h0]; simp only [w64]; omega, by rw [← HH.out.2]; congr 1; rw [neg_quo m h0]; simp only [w64]; omega, by have := HZ.out; omega, by simp, rfl, HZ.out, rfl, World.ownsRow_nil _ _ _ _, Below.refl _ _⟩
  case round =>
    obtain ⟨f, z, pre, rfl, rfl, hz64, hp9, hf, hzf, he, hown, hB⟩ := hrel
    have HF := Lib.hid hf
    have HZF := Lib.hid hzf
    have HE := Lib.hid he
    clear hf hzf he
    have hrow : ∀ k, u6.ownBlock = some k → w.heap.size ≤ k := fun k hk => (hown.lt k hk).1
    by_cases hs : z < 128
    · have hre : ((z / 128 : Nat) : Int) ≤ 0 := by omega
      go_wp2_with (at_builtin; refine wpList_append_own _ rfl _ _ 44 rfl w.heap.size 5 i0 (.int .u8 0) 1 1 Try.underlying44 hi hz0 hz1 hz2 rfl (by decide) _ _ _ rfl (hown.alloc _) ⟨wr.heap.size, 0, none⟩ 1 1 [_] rfl rfl (cell_one_new _ _ _) (by simp [Value.oneCell']) (by unfold maxLen; omega) (by omega) (by have := hB.size; simp; omega) ?_; intro v' w1 hown' hgrow hnil; rw [U_byte pre z (by omega) _ (by omega)] at hown'; obtain ⟨g', cap', rfl⟩ := ownsRow_succ hown'; have hcv := conv_own (by simp) hown')
      go_ret
      exact ⟨ret_str (by rw [HE.out, Vm.encF_small f hs]), (hB.alloc hB.size _).grown hgrow (by have := hB.size; simp; omega) hrow⟩
    · obtain ⟨j, rfl⟩ : ∃ j, f = j + 1 := by
        cases f with
        | zero => have := HZF.out; omega
        | succ j => exact ⟨j, rfl⟩
      have hd := Lib.hid (Vm.div_lt j HZF.out)
      have hbig := Lib.hid (Vm.encF_big j hs)
      have hre : 0 < ((z / 128 : Nat) : Int) := by omega
      have hp8 : pre.length ≤ 8 := by have := HF.out; omega
      go_wp2_with (at_builtin; refine wpList_append_own _ rfl _ _ 44 rfl w.heap.size 5 i0 (.int .u8 0) 1 1 Try.underlying44 hi hz0 hz1 hz2 rfl (by decide) _ _ _ rfl (hown.alloc _) ⟨wr.heap.size, 0, none⟩ 1 1 [_] rfl rfl (cell_one_new _ _ _) (by simp [Value.oneCell']) (by unfold maxLen; omega) (by omega) (by have := hB.size; simp; omega) ?_; intro v' w1 hown' hgrow hnil; rw [U_byte pre (z % 128 + 128) (by omega) _ (by omega)] at hown')
      go_roundw
      case rel => exact ⟨j, z / 128, pre ++ [UInt8.ofNat (z % 128 + 128)], by go_num, by go_num, by omega, by simp; omega, by have := HF.out; simp; omega, hd.out, by rw [HE.out, hbig.out]; simp, by simpa using hown', (hB.alloc hB.size _).grown hgrow (by have := hB.size; simp; omega) hrow⟩
      case measure => simp [intOf]; omega

theorem qnum_any (m : Int) (hm : Vm.In m) (w : World) :
    Calls Try.prog 15 #[.int .i64 m] w fun e w' => e = .returned (.string (S (Vm.enc m))) ∧ Below w.heap.size w w' := by
  by_cases h : 0 ≤ m
  · exact qnum_pos m hm h w
  · exact qnum_neg m hm (by omega) w
theorem qtext_any (s : ByteArray) (hs : s.size ≤ 4611686018427387904) (w : World) :
    Calls Try.prog 17 #[.string s] w fun e w' => e = .returned (.string (S (Vm.enc s.size ++ s.data.toList))) ∧ Below w.heap.size w w' := by
  have hl : (S (Vm.enc s.size)).size ≤ 10 := by rw [S_size]; exact (Vm.enc_length _).2
  have HE : Hid (S (Vm.enc s.size) ++ s = S (Vm.enc s.size ++ s.data.toList)) := Lib.hid (S_append _ _)
  have hin := In_size hs
  go_enter Try.func17, Try.ntmps17
  go_wp2_with (go_at_call 15; refine (qnum_any _ hin _).mono ?_; rintro e w1 ⟨rfl, hb1⟩)
  go_ret
  exact ⟨ret_str HE.out, hb1⟩
theorem qnew_any (s : ByteArray) (w : World) :
    Calls Try.prog 19 #[.string s] w fun e w' => e = .returned (.pointer (some ⟨w.heap.size, 0, none⟩)) ∧ w' = w.alloc (.cells #[.string s, .bool false] 51) := by
  go_enter Try.func19, Try.ntmps19
  go_wp2
  go_ret
  exact ⟨rfl, rfl⟩
theorem qleft_any (b : Nat) (s : ByteArray) (w : World) (h : w.cell? ⟨b, 0, none⟩ = some (.string s)) :
    Calls Try.prog 25 #[.pointer (some ⟨b, 0, none⟩)] w fun e w' => e = .returned (.int .i64 s.size) ∧ w = w' := by
  go_enter Try.func25, Try.ntmps25
  go_wp2
  go_ret
  exact ⟨rfl, rfl⟩
theorem qbad_any (b : Nat) (x : Bool) (w : World) (h : w.cell? ⟨b, 1, none⟩ = some (.bool x)) :
    Calls Try.prog 27 #[.pointer (some ⟨b, 0, none⟩)] w fun e w' => e = .returned (.bool x) ∧ w = w' := by
  go_enter Try.func27, Try.ntmps27
  go_wp2
  go_ret
  exact ⟨rfl, rfl⟩
theorem qends_bad (b : Nat) (w : World) (h : w.cell? ⟨b, 1, none⟩ = some (.bool true)) :
    Calls Try.prog 29 #[.pointer (some ⟨b, 0, none⟩)] w fun e w' => e = .returned (.bool false) ∧ w = w' := by
  go_enter Try.func29, Try.ntmps29
  go_wp2
  go_ret
  exact ⟨rfl, rfl⟩
theorem qends_good (b : Nat) (s : ByteArray) (w : World) (h : w.cell? ⟨b, 1, none⟩ = some (.bool false)) (h0 : w.cell? ⟨b, 0, none⟩ = some (.string s)) :
    Calls Try.prog 29 #[.pointer (some ⟨b, 0, none⟩)] w fun e w' => e = .returned (.bool (decide (s.size = 0))) ∧ w = w' := by
  go_enter Try.func29, Try.ntmps29
  go_wp2
  go_ret
  exact ⟨ret_bool (by rw [Bool.eq_iff_iff, decide_eq_true_iff, Lib.toList_data, List.isEmpty_iff, Lib.size_eq, List.length_eq_zero_iff]), rfl⟩
end Go.Proofs.Ytdnlpjmjhlmjgaa
