/-
  strings.Clone.
-/
import Derived.Lib.BufferWrite
import Derived.Lib.UnsafeStr
import Derived.Deep.WholeRow
import Derived.Stop.Walk2
import Derived.Test.YtbbogkmibiealaaTexts
import Derived.Test.YtbbogkmibiealaaHeldG
namespace Go.Proofs.Ytbbogkmibiealaa
open Go.RowKit

theorem infoB : (Try.prog.info? 5).map (fun i => (i.zero, i.size, i.bytes)) = some (some (.int .u8 0), 1, 1) := by kernel_rfl
theorem makeN (n : Nat) (h : n ≤ 281474976710656) : ∃ C : Array Value, ∀ w : World, (Instr.makeSlice 69 (.int .i64 (n : Int)) (.int .i64 (n : Int))).run Try.prog w = .ok (.slice (some ⟨w.heap.size, 0, none⟩) n n) (w.alloc (.cells C 5)) ∧ C.size = n := by
  obtain ⟨i0, hi, hz0, hz1, hz2⟩ := info_parts infoB
  refine ⟨madeCells (Value.int .u8 0).cells (n * i0.size), fun w => ⟨?_, ?_⟩⟩
  · have := run_make (P := Try.prog) w 69 5 i0 (.int .u8 0) Try.underlying69 hi hz0 .i64 .i64 (n : Int) (n : Int) (by omega) (Int.le_refl _) (by rw [hz2]; omega) (by omega)
    simpa using this
  · rw [size_madeCells, hz1, Nat.mul_one]
theorem clone_at (s : ByteArray) (hs : s.size ≤ 281474976710656) (h0 : (((s.size : Nat) : Int) == 0) = false) (w : World) :
    Calls Try.prog 41 #[.string s] w fun e w' => e = .returned (.string s) ∧ Below w.heap.size w w' := by
  obtain ⟨C, hC⟩ := makeN s.size hs
  have hmk : (Instr.makeSlice 69 (.int .i64 (s.size : Int)) (.int .i64 (s.size : Int))).run Try.prog w = .ok (.slice (some ⟨w.heap.size, 0, none⟩) s.size s.size) (w.alloc (.cells C 5)) := (hC w).1
  have hCs := (hC w).2
  have hcp : ∀ ty, (Builtin.copy_ #[69, 9] ty #[.slice (some ⟨w.heap.size, 0, none⟩) s.size s.size, .string s]).run Try.prog (w.alloc (.cells C 5)) = .ok (.int .i64 (s.size : Int)) (w.alloc (.cells (Lib.byteCells s.data.toList).toArray 5)) := by
    intro ty
    have := Lib.run_copy_row_string (P := Try.prog) (w.alloc (.cells C 5)) 69 9 ty 5 w.heap.size 0 s.size s.size s C 5 Try.underlying69 (by kernel_rfl) (new_at w _) (Nat.le_refl _) (by omega)
    rw [this, World.setRow_alloc_new]
    congr 3
    simp [hCs]
  have hun : ∀ ty, (Builtin.unsafeString_ #[70, 3] ty #[.pointer (some ⟨w.heap.size, 0, none⟩), .int .i64 (s.size : Int)]).run Try.prog (w.alloc (.cells (Lib.byteCells s.data.toList).toArray 5)) =
      .ok (.string s) ((w.alloc (.cells (Lib.byteCells s.data.toList).toArray 5)).freeze ⟨w.heap.size, 0, none⟩ s.size) := by
    intro ty
    have hl : s.data.toList.length = s.size := (Lib.size_eq s).symm
    have := Lib.run_unsafeString_row (P := Try.prog) (w.alloc (.cells (Lib.byteCells s.data.toList).toArray 5)) 70 3 ty 5 Try.underlying70 (by kernel_rfl) w.heap.size s.size
      (by rw [World.shape?_alloc_at _ _ _ _]; simp [Lib.byteCells_length, hl]; rfl) s.data.toList (by intro h; rw [h] at hl; simp at hl; simp [← hl] at h0) (by omega) (by omega) (fun j x hj => by
        have hp : (⟨w.heap.size, 0, none⟩ : Addr).add j = ⟨w.heap.size, j, none⟩ := by unfold Addr.add; split <;> simp_all
        rw [hp, World.cell?_alloc_mark]
        simp [Lib.byteCells, hj])
    rw [hl] at this
    rw [this]
  have hpos : 0 < s.size := by
    rcases Nat.eq_zero_or_pos s.size with h | h
    · rw [h] at h0; simp at h0
    · exact h
  clear hC hCs
  go_enter Try.func41, Try.ntmps41
  go_wp2
  go_ret
  exact ⟨rfl, Lib.below_freeze ((Below.refl _ _).alloc (Nat.le_refl _) _) (Nat.le_refl _) _⟩
theorem clone_any (s : ByteArray) (hs : s.size ≤ 281474976710656) (w : World) :
    Calls Try.prog 41 #[.string s] w fun e w' => e = .returned (.string s) ∧ Below w.heap.size w w' := by
  by_cases h : s.size = 0
  · obtain rfl : s = ⟨#[]⟩ := by
      rw [← S_eq s]
      have : s.data.toList = [] := List.eq_nil_of_length_eq_zero (by rw [← Lib.size_eq]; exact h)
      rw [this]; rfl
    clear h hs
    go_enter Try.func41, Try.ntmps41
    go_wp2
    go_ret
    exact ⟨rfl, Below.refl _ _⟩
  · exact clone_at s hs (by rw [beq_eq_false_iff_ne]; omega) w
theorem sclone_any (k : List UInt8) (hk : k.length ≤ 140737488351232) (w : World) :
    Calls Try.prog 32 #[.string (S k)] w fun e w' => e = .returned (.string (S k)) ∧ Below w.heap.size w w' := by
  have hs : (S k).size ≤ 281474976710656 := by rw [S_size]; omega
  go_enter Try.func32, Try.ntmps32
  go_wp2_with (go_at_call 41; refine (clone_any _ hs _).mono ?_; rintro e w1 ⟨rfl, hb1⟩)
  go_ret
  exact ⟨rfl, hb1⟩
end Go.Proofs.Ytbbogkmibiealaa
