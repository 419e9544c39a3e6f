/-
  The small functions of the layer, each by its own walk: the zigzag value and back, prefixes of strings, readers' fields.
-/
import Derived.WalkKit
import Derived.WalkSpells
import Derived.WalkLawsBesides
import Derived.Outline
import Derived.Laws.Bits64
import Derived.Lib.Zigzag
import Derived.Lib.Strings
import Derived.Lib.Hide
import Derived.Test.YtdnlpjmjhlmjgaaProg
import Derived.Test.YtdnlpjmjhlmjgaaMath
namespace Go.Proofs.Ytdnlpjmjhlmjgaa
open Go.RowKit

theorem ret_int {k : IntKind} {a b : Int} (h : a = b) : Ending.returned (.int k a) = .returned (.int k b) := by rw [h]
theorem ret_bool {a b : Bool} (h : a = b) : Ending.returned (.bool a) = .returned (.bool b) := by rw [h]
theorem ret_str {a b : ByteArray} (h : a = b) : Ending.returned (.string a) = .returned (.string b) := by rw [h]

theorem zig_pos (n : Int) (w : World) (h0 : 0 ≤ n) (h : n ≤ 9223372036854775807) :
    Calls Try.prog 37 #[.int .i64 n] w fun e w' => e = .returned (.int .u64 (Vm.zig n)) ∧ w = w' := by
  go_enter Try.func37, Try.ntmps37
  go_wp2
  go_ret
  exact ⟨ret_int (by unfold Vm.zig; rw [if_pos h0]; omega), rfl⟩

theorem zig_neg (n : Int) (w : World) (h0 : n < 0) (h : -9223372036854775808 ≤ n) :
    Calls Try.prog 37 #[.int .i64 n] w fun e w' => e = .returned (.int .u64 (Vm.zig n)) ∧ w = w' := by
  have e1 := Lib.zigzag_neg h h0
  have e2 : Lib.zigzag n = Vm.zig n := by unfold Lib.zigzag Vm.zig; simp only [if_neg (show ¬ 0 ≤ n by omega)]
  have E := Lib.hid (e1.trans (by rw [e2]))
  clear e1 e2
  go_enter Try.func37, Try.ntmps37
  go_wp2
  go_ret
  exact ⟨ret_int E.out, rfl⟩

theorem zig_any (n : Int) (w : World) (h : Vm.In n) :
    Calls Try.prog 37 #[.int .i64 n] w fun e w' => e = .returned (.int .u64 (Vm.zig n)) ∧ w = w' := by
  by_cases h0 : 0 ≤ n
  · exact zig_pos n w h0 h.2
  · exact zig_neg n w (by omega) h.1

theorem unzig_any (z : Nat) (w : World) (h : z < 18446744073709551616) :
    Calls Try.prog 39 #[.int .u64 z] w fun e w' => e = .returned (.int .i64 (Vm.unzig z)) ∧ w = w' := by
  have e1 := Lib.i64_not (z / 2) (by omega)
  have E : Hid (bits .xor .i64 (-1) ((z : Int) / 2) = -((z / 2 : Nat) : Int) - 1) := by
    rw [show ((z : Int) / 2) = ((z / 2 : Nat) : Int) by omega]; exact e1
  clear e1
  go_enter Try.func39, Try.ntmps39
  go_wp2
  · have hz : ((z : Int) % 2 == 1) = true := by assumption
    have hz' : z % 2 = 1 := by simp at hz; omega
    go_ret
    exact ⟨ret_int (by unfold Vm.unzig; rw [if_pos hz', E.out]), rfl⟩
  · have hz : ((z : Int) % 2 == 1) = false := by assumption
    have hz' : ¬ z % 2 = 1 := by simp at hz; omega
    go_ret
    exact ⟨ret_int (by unfold Vm.unzig; rw [if_neg hz']; omega), rfl⟩

theorem prefix_raw (s p : ByteArray) (h : p.size ≤ s.size) : ((s.extract 0 p.size).toList == p.toList) = decide (p.data.toList <+: s.data.toList) := by
  have := Lib.hasPrefix_raw s p
  rw [decide_eq_true h, Bool.true_and] at this
  rw [this]
  unfold Lib.hasPrefix
  rw [Bool.eq_iff_iff, List.isPrefixOf_iff_prefix, decide_eq_true_iff]
theorem prefix_size {s p : ByteArray} (h : p.data.toList <+: s.data.toList) : p.size ≤ s.size := by
  have := h.length_le
  rw [Lib.size_eq, Lib.size_eq]; exact this

theorem hasP_any (s p : ByteArray) (w : World) :
    Calls Try.prog 43 #[.string s, .string p] w fun e w' => e = .returned (.bool (decide (p.data.toList <+: s.data.toList))) ∧ w = w' := by
  go_enter Try.func43, Try.ntmps43
  go_wp2
  · have h : p.size ≤ s.size := by assumption
    go_ret
    exact ⟨ret_bool (prefix_raw s p h), rfl⟩
  · have h : ¬ p.size ≤ s.size := by assumption
    go_ret
    exact ⟨ret_bool (by rw [eq_comm, decide_eq_false_iff_not]; exact fun hp => h (prefix_size hp)), rfl⟩

theorem icut_hit (s p : ByteArray) (w : World) (h : p.data.toList <+: s.data.toList) :
    Calls Try.prog 40 #[.string s, .string p] w fun e w' => e = .returned (.tuple #[.string (s.extract p.size s.size), .bool true]) ∧ w = w' := by
  have hs := prefix_size h
  have H : Hid (decide (p.data.toList <+: s.data.toList) = true) := decide_eq_true h
  clear h
  go_enter Try.func40, Try.ntmps40
  go_wp2_with (go_at_call 43; refine (hasP_any _ _ _).mono ?_; rintro e w' ⟨rfl, rfl⟩; rw [H.out])
  go_ret2
  exact ⟨rfl, rfl⟩
theorem icut_miss (s p : ByteArray) (w : World) (h : ¬ p.data.toList <+: s.data.toList) :
    Calls Try.prog 40 #[.string s, .string p] w fun e w' => e = .returned (.tuple #[.string s, .bool false]) ∧ w = w' := by
  have H : Hid (decide (p.data.toList <+: s.data.toList) = false) := decide_eq_false h
  clear h
  go_enter Try.func40, Try.ntmps40
  go_wp2_with (go_at_call 43; refine (hasP_any _ _ _).mono ?_; rintro e w' ⟨rfl, rfl⟩; rw [H.out])
  go_ret2
  exact ⟨rfl, rfl⟩
theorem cut_hit (s p : ByteArray) (w : World) (h : p.data.toList <+: s.data.toList) :
    Calls Try.prog 33 #[.string s, .string p] w fun e w' => e = .returned (.tuple #[.string (s.extract p.size s.size), .bool true]) ∧ w = w' := by
  have H := Lib.hid h
  clear h
  go_enter Try.func33, Try.ntmps33
  go_wp2_with (go_at_call 40; refine (icut_hit _ _ _ H.out).mono ?_; rintro e w' ⟨rfl, rfl⟩)
  go_ret2
  exact ⟨rfl, rfl⟩
theorem cut_miss (s p : ByteArray) (w : World) (h : ¬ p.data.toList <+: s.data.toList) :
    Calls Try.prog 33 #[.string s, .string p] w fun e w' => e = .returned (.tuple #[.string s, .bool false]) ∧ w = w' := by
  have H := Lib.hid h
  clear h
  go_enter Try.func33, Try.ntmps33
  go_wp2_with (go_at_call 40; refine (icut_miss _ _ _ H.out).mono ?_; rintro e w' ⟨rfl, rfl⟩)
  go_ret2
  exact ⟨rfl, rfl⟩

theorem new_any (s : ByteArray) (w : World) :
    Calls Try.prog 18 #[.string s] w fun e w' => e = .returned (.pointer (some ⟨w.heap.size, 0, none⟩)) ∧ w' = w.alloc (.cells #[.string s, .bool false] 49) := by
  go_enter Try.func18, Try.ntmps18
  go_wp2
  go_ret
  exact ⟨rfl, rfl⟩
theorem left_any (b : Nat) (s : ByteArray) (w : World) (h : w.cell? ⟨b, 0, none⟩ = some (.string s)) :
    Calls Try.prog 24 #[.pointer (some ⟨b, 0, none⟩)] w fun e w' => e = .returned (.int .i64 s.size) ∧ w = w' := by
  go_enter Try.func24, Try.ntmps24
  go_wp2
  go_ret
  exact ⟨rfl, rfl⟩
theorem bad_any (b : Nat) (x : Bool) (w : World) (h : w.cell? ⟨b, 1, none⟩ = some (.bool x)) :
    Calls Try.prog 26 #[.pointer (some ⟨b, 0, none⟩)] w fun e w' => e = .returned (.bool x) ∧ w = w' := by
  go_enter Try.func26, Try.ntmps26
  go_wp2
  go_ret
  exact ⟨rfl, rfl⟩
theorem ends_bad (b : Nat) (w : World) (h : w.cell? ⟨b, 1, none⟩ = some (.bool true)) :
    Calls Try.prog 28 #[.pointer (some ⟨b, 0, none⟩)] w fun e w' => e = .returned (.bool false) ∧ w = w' := by
  go_enter Try.func28, Try.ntmps28
  go_wp2
  go_ret
  exact ⟨rfl, rfl⟩
theorem ends_good (b : Nat) (s : ByteArray) (w : World) (h : w.cell? ⟨b, 1, none⟩ = some (.bool false)) (h0 : w.cell? ⟨b, 0, none⟩ = some (.string s)) :
    Calls Try.prog 28 #[.pointer (some ⟨b, 0, none⟩)] w fun e w' => e = .returned (.bool (decide (s.size = 0))) ∧ w = w' := by
  go_enter Try.func28, Try.ntmps28
  go_wp2
  go_ret
  exact ⟨ret_bool (by rw [Bool.eq_iff_iff]; simp), rfl⟩
end Go.Proofs.Ytdnlpjmjhlmjgaa
