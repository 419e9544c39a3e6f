/-
  strings.Clone: the same bytes in new memory; the reader's Text.
-/
import Derived.Lib.BufferWrite
import Derived.Deep.WholeRow
import Derived.Stop.Walk2
import Derived.Test.YtdnlpjmjhlmjgaaAwake
namespace Go.Proofs.Ytdnlpjmjhlmjgaa
open Go.RowKit Go.Shelf

theorem makeN (n : Nat) (h : n ≤ 281474976710656) : ∃ C : Array Value, ∀ w : World, (Instr.makeSlice 44 (.int .i64 (n : Int)) (.int .i64 (n : Int))).run Try.prog w = .ok (.slice (some ⟨w.heap.size, 0, none⟩) n n) (w.alloc (.cells C 5)) ∧ C.size = n := by
  obtain ⟨i0, hi, hz0, hz1, hz2⟩ := info_parts infoU8
  refine ⟨madeCells (Value.int .u8 0).cells (n * i0.size), fun w => ⟨?_, ?_⟩⟩
  · have := run_make (P := Try.prog) w 44 5 i0 (.int .u8 0) Try.underlying44 hi hz0 .i64 .i64 (n : Int) (n : Int) (by omega) (Int.le_refl _) (by rw [hz2]; omega) (by omega)
    simpa using this
  · rw [size_madeCells, hz1, Nat.mul_one]

theorem clone_at (s : ByteArray) (hs : s.size ≤ 281474976710656) (h0 : (((s.size : Nat) : Int) == 0) = false) (w : World) :
    Calls Try.prog 41 #[.string s] w fun e w' => e = .returned (.string s) ∧ Below w.heap.size w w' := by
  obtain ⟨C, hC⟩ := makeN s.size hs
  have hmk : (Instr.makeSlice 44 (.int .i64 (s.size : Int)) (.int .i64 (s.size : Int))).run Try.prog w = .ok (.slice (some ⟨w.heap.size, 0, none⟩) s.size s.size) (w.alloc (.cells C 5)) := (hC w).1
  have hCs := (hC w).2
  have hcp : ∀ ty, (Builtin.copy_ #[44, 9] ty #[.slice (some ⟨w.heap.size, 0, none⟩) s.size s.size, .string s]).run Try.prog (w.alloc (.cells C 5)) = .ok (.int .i64 (s.size : Int)) (w.alloc (.cells (Lib.byteCells s.data.toList).toArray 5)) := by
    intro ty
    have := Lib.run_copy_row_string (P := Try.prog) (w.alloc (.cells C 5)) 44 9 ty 5 w.heap.size 0 s.size s.size s C 5 Try.underlying44 (by kernel_rfl) (World.alloc_heap_new w _) (Nat.le_refl _) (by omega)
    rw [this, World.setRow_alloc_new]
    congr 3
    simp [hCs]
  have hun : ∀ ty, (Builtin.unsafeString_ #[67, 3] ty #[.pointer (some ⟨w.heap.size, 0, none⟩), .int .i64 (s.size : Int)]).run Try.prog (w.alloc (.cells (Lib.byteCells s.data.toList).toArray 5)) =
      .ok (.string s) ((w.alloc (.cells (Lib.byteCells s.data.toList).toArray 5)).freeze ⟨w.heap.size, 0, none⟩ s.size) := by
    intro ty
    have hl : s.data.toList.length = s.size := (Lib.size_eq s).symm
    have := Lib.run_unsafeString_row (P := Try.prog) (w.alloc (.cells (Lib.byteCells s.data.toList).toArray 5)) 67 3 ty 5 Try.underlying67 (by kernel_rfl) w.heap.size s.size
      (by rw [World.shape?_alloc_at _ _ _ _]; simp [Lib.byteCells_length, hl]; rfl) s.data.toList (by intro h; rw [h] at hl; simp at hl; simp [← hl] at h0) (by omega) (by omega) (fun j x hj => by
        have hp : (⟨w.heap.size, 0, none⟩ : Addr).add j = ⟨w.heap.size, j, none⟩ := by unfold Addr.add; split <;> simp_all
        rw [hp, World.cell?_alloc_mark]
        simp [Lib.byteCells, hj])
    rw [hl] at this
    rw [this]
  have hpos : 0 < s.size := by
    rcases Nat.eq_zero_or_pos s.size with h | h
    · rw [h] at h0; simp at h0
    · exact h
  clear hC hCs
  go_enter Try.func41, Try.ntmps41
  go_wp2
  go_ret
  exact ⟨rfl, Lib.below_freeze ((Below.refl _ _).alloc (Nat.le_refl _) _) (Nat.le_refl _) _⟩
theorem clone_any (s : ByteArray) (hs : s.size ≤ 281474976710656) (w : World) :
    Calls Try.prog 41 #[.string s] w fun e w' => e = .returned (.string s) ∧ Below w.heap.size w w' := by
  by_cases h : s.size = 0
  · obtain rfl : s = ⟨#[]⟩ := by
      rw [← S_eq s]
      have : s.data.toList = [] := List.eq_nil_of_length_eq_zero (by rw [← Lib.size_eq]; exact h)
      rw [this]; rfl
    clear h hs
    go_enter Try.func41, Try.ntmps41
    go_wp2
    go_ret
    exact ⟨rfl, Below.refl _ _⟩
  · exact clone_at s hs (by rw [beq_eq_false_iff_ne]; omega) w
theorem sclone_any (s : ByteArray) (hs : s.size ≤ 281474976710656) (w : World) :
    Calls Try.prog 35 #[.string s] w fun e w' => e = .returned (.string s) ∧ Below w.heap.size w w' := by
  go_enter Try.func35, Try.ntmps35
  go_wp2_with (go_at_call 41; refine (clone_any s hs _).mono ?_; rintro e w1 ⟨rfl, hb1⟩)
  go_ret
  exact ⟨rfl, hb1⟩

theorem slice_to (s : ByteArray) (k : Nat) (h : k ≤ s.size) (w : World) : (Instr.slice 9 (.string s) none (some (.int .i64 (k : Int))) none).run Try.prog w = .ok (.string (S (s.data.toList.take k))) w := by
  rw [run_slice_string_to_if w 9 s .i64 (k : Int) Try.underlying9]
  rw [if_pos (by omega), Int.toNat_natCast, Lib.extract_eq]
  simp [S]
theorem slice_from (s : ByteArray) (k : Nat) (h : k ≤ s.size) (w : World) : (Instr.slice 9 (.string s) (some (.int .i64 (k : Int))) none none).run Try.prog w = .ok (.string (S (s.data.toList.drop k))) w := by
  rw [run_slice_string_from_if w 9 s .i64 (k : Int) Try.underlying9]
  rw [if_pos (by omega), Int.toNat_natCast, Lib.extract_eq]
  have e : (s.data.toList.drop k).take (s.size - k) = s.data.toList.drop k := List.take_of_length_le (by rw [List.length_drop, Lib.size_eq]; omega)
  rw [e]; rfl

set_option maxHeartbeats 1000000 in
theorem rtext_bad (b : Nat) (s : ByteArray) (most : Int) (w : World) (h : RdAt 49 w b s true) :
    Calls Try.prog 22 #[.pointer (some ⟨b, 0, none⟩), .int .i64 most] w fun e w' => e = .returned (.string ⟨#[]⟩) ∧ RdAt 49 w' b s true ∧ w.grownBy w' (some b) := by
  have c1 := h.cell1
  have f1 := h.fr 1
  go_enter Try.func22, Try.ntmps22
  go_wp2_with (go_at_call 20; refine (rnum_bad b s _ h).mono ?_; rintro e w1 ⟨rfl, rfl⟩)
  go_ret
  exact ⟨rfl, h.set1 true, gb_set w b 1 _⟩

set_option maxHeartbeats 1000000 in
theorem rtext_none (b : Nat) (s : ByteArray) (hs : s.size ≤ 4611686018427387904) (most : Int) (w : World) (h : RdAt 49 w b s false) (hr : Vm.rd s.data.toList = none) :
    Calls Try.prog 22 #[.pointer (some ⟨b, 0, none⟩), .int .i64 most] w fun e w' => e = .returned (.string ⟨#[]⟩) ∧ RdAt 49 w' b s true ∧ w.grownBy w' (some b) := by
  have HR := Lib.hid hr
  clear hr
  go_enter Try.func22, Try.ntmps22
  go_wp2_with fail
  refine (rnum_no b s hs _ h HR.out).mono ?_
  rintro e w1 ⟨rfl, r1, g1⟩
  have c1 := r1.cell1
  have f1 := r1.fr 1
  go_wp2
  go_ret
  exact ⟨rfl, r1.set1 true, gb_trans g1 (gb_set w1 b 1 _)⟩

set_option maxHeartbeats 1000000 in
theorem rtext_no (b : Nat) (s : ByteArray) (hs : s.size ≤ 4611686018427387904) (most n : Int) (r : List UInt8) (w : World) (h : RdAt 49 w b s false) (hr : Vm.rd s.data.toList = some (n, r)) (hn : n < 0 ∨ most < n ∨ (r.length : Int) < n) :
    Calls Try.prog 22 #[.pointer (some ⟨b, 0, none⟩), .int .i64 most] w fun e w' => e = .returned (.string ⟨#[]⟩) ∧ RdAt 49 w' b (S r) true ∧ w.grownBy w' (some b) := by
  have HR := Lib.hid hr
  clear hr
  have hrs : ((S r).size : Int) = (r.length : Int) := by rw [S_size]
  rcases (show n < 0 ∨ 0 ≤ n ∧ most < n ∨ 0 ≤ n ∧ n ≤ most ∧ ((S r).size : Int) < n by omega) with h1 | ⟨h1, h2⟩ | ⟨h1, h2, h3⟩
  all_goals
    clear hn hrs
    go_enter Try.func22, Try.ntmps22
    go_wp2_with fail
    refine (rnum_ok b s hs n r _ h HR.out).mono ?_
    rintro e w1 ⟨rfl, r1, g1⟩
    have c0 := r1.cell0
    have c1 := r1.cell1
    have f1 := r1.fr 1
    go_wp2
    go_ret
    exact ⟨rfl, r1.set1 true, gb_trans g1 (gb_set w1 b 1 _)⟩

set_option maxHeartbeats 1000000 in
theorem rtext_ok (b : Nat) (s : ByteArray) (hs : s.size ≤ 4611686018427387904) (most : Int) (n : Nat) (r : List UInt8) (w : World) (h : RdAt 49 w b s false) (hr : Vm.rd s.data.toList = some ((n : Int), r)) (h1 : (n : Int) ≤ most) (h2 : n ≤ r.length) (h3 : n ≤ 281474976710656) :
    Calls Try.prog 22 #[.pointer (some ⟨b, 0, none⟩), .int .i64 most] w fun e w' => e = .returned (.string (S (r.take n))) ∧ RdAt 49 w' b (S (r.drop n)) false ∧ w.grownBy w' (some b) := by
  have HR := Lib.hid hr
  clear hr
  have hrs : (n : Int) ≤ ((S r).size : Int) := by rw [S_size]; omega
  have s1 := slice_to (S r) n (by rw [S_size]; exact h2)
  have s2 := slice_from (S r) n (by rw [S_size]; exact h2)
  rw [S_list] at s1 s2
  have hsz : (S (r.take n)).size ≤ 281474976710656 := by rw [S_size, List.length_take]; omega
  clear h2 h3
  go_enter Try.func22, Try.ntmps22
  go_wp2_with fail
  refine (rnum_ok b s hs n r _ h HR.out).mono ?_
  rintro e w1 ⟨rfl, r1, g1⟩
  have c0 := r1.cell0
  have c1 := r1.cell1
  go_wp2_with fail
  refine (sclone_any _ hsz _).mono ?_
  rintro e w2 ⟨rfl, hb2⟩
  have r2 := r1.below hb2 r1.lt
  have d0 := r2.cell0
  have f0 := r2.fr 0
  clear c0 c1
  go_wp2
  go_ret
  exact ⟨rfl, r2.set0 _, gb_trans (gb_trans g1 (gb_below _ hb2)) (gb_set w2 b 0 _)⟩
end Go.Proofs.Ytdnlpjmjhlmjgaa
