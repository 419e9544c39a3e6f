/-
  The program's leases: Until, Holds, Over, New; strings.Clone.
-/
import Derived.Lib.BufferWrite
import Derived.Lib.UnsafeStr
import Derived.Deep.WholeRow
import Derived.Stop.Walk2
import Derived.Test.YtgkpkegbjkjhiaaLpmem
namespace Go.Proofs.Ytgkpkegbjkjhiaa
open Go.RowKit Gm

theorem infoB : (Try.prog.info? 5).map (fun i => (i.zero, i.size, i.bytes)) = some (some (.int .u8 0), 1, 1) := by kernel_rfl
theorem makeN (n : Nat) (h : n ≤ 281474976710656) : ∃ C : Array Value, ∀ w : World, (Instr.makeSlice 67 (.int .i64 (n : Int)) (.int .i64 (n : Int))).run Try.prog w = .ok (.slice (some ⟨w.heap.size, 0, none⟩) n n) (w.alloc (.cells C 5)) ∧ C.size = n := by
  obtain ⟨i0, hi, hz0, hz1, hz2⟩ := info_parts infoB
  refine ⟨madeCells (Value.int .u8 0).cells (n * i0.size), fun w => ⟨?_, ?_⟩⟩
  · have := run_make (P := Try.prog) w 67 5 i0 (.int .u8 0) Try.underlying67 hi hz0 .i64 .i64 (n : Int) (n : Int) (by omega) (Int.le_refl _) (by rw [hz2]; omega) (by omega)
    simpa using this
  · rw [size_madeCells, hz1, Nat.mul_one]
theorem clone_at (s : ByteArray) (hs : s.size ≤ 281474976710656) (h0 : (((s.size : Nat) : Int) == 0) = false) (w : World) :
    Calls Try.prog 44 #[.string s] w fun e w' => e = .returned (.string s) ∧ Below w.heap.size w w' := by
  obtain ⟨C, hC⟩ := makeN s.size hs
  have hmk : (Instr.makeSlice 67 (.int .i64 (s.size : Int)) (.int .i64 (s.size : Int))).run Try.prog w = .ok (.slice (some ⟨w.heap.size, 0, none⟩) s.size s.size) (w.alloc (.cells C 5)) := (hC w).1
  have hCs := (hC w).2
  have hcp : ∀ ty, (Builtin.copy_ #[67, 9] ty #[.slice (some ⟨w.heap.size, 0, none⟩) s.size s.size, .string s]).run Try.prog (w.alloc (.cells C 5)) = .ok (.int .i64 (s.size : Int)) (w.alloc (.cells (Lib.byteCells s.data.toList).toArray 5)) := by
    intro ty
    have := Lib.run_copy_row_string (P := Try.prog) (w.alloc (.cells C 5)) 67 9 ty 5 w.heap.size 0 s.size s.size s C 5 Try.underlying67 (by kernel_rfl) (new_at w _) (Nat.le_refl _) (by omega)
    rw [this, World.setRow_alloc_new]
    congr 3
    simp [hCs]
  have hun : ∀ ty, (Builtin.unsafeString_ #[68, 3] ty #[.pointer (some ⟨w.heap.size, 0, none⟩), .int .i64 (s.size : Int)]).run Try.prog (w.alloc (.cells (Lib.byteCells s.data.toList).toArray 5)) =
      .ok (.string s) ((w.alloc (.cells (Lib.byteCells s.data.toList).toArray 5)).freeze ⟨w.heap.size, 0, none⟩ s.size) := by
    intro ty
    have hl : s.data.toList.length = s.size := (Lib.size_eq s).symm
    have := Lib.run_unsafeString_row (P := Try.prog) (w.alloc (.cells (Lib.byteCells s.data.toList).toArray 5)) 68 3 ty 5 Try.underlying68 (by kernel_rfl) w.heap.size s.size
      (by rw [World.shape?_alloc_at _ _ _ _]; simp [Lib.byteCells_length, hl]; rfl) s.data.toList (by intro h; rw [h] at hl; simp at hl; simp [← hl] at h0) (by omega) (by omega) (fun j x hj => by
        have hp : (⟨w.heap.size, 0, none⟩ : Addr).add j = ⟨w.heap.size, j, none⟩ := by unfold Addr.add; split <;> simp_all
        rw [hp, World.cell?_alloc_mark]
        simp [Lib.byteCells, hj])
    rw [hl] at this
    rw [this]
  have hpos : 0 < s.size := by
    rcases Nat.eq_zero_or_pos s.size with h | h
    · rw [h] at h0; simp at h0
    · exact h
  clear hC hCs
  go_enter Try.func44, Try.ntmps44
  go_wp2
  go_ret
  exact ⟨rfl, Lib.below_freeze ((Below.refl _ _).alloc (Nat.le_refl _) _) (Nat.le_refl _) _⟩
theorem clone_any (s : ByteArray) (hs : s.size ≤ 281474976710656) (w : World) :
    Calls Try.prog 44 #[.string s] w fun e w' => e = .returned (.string s) ∧ Below w.heap.size w w' := by
  by_cases h : s.size = 0
  · obtain rfl : s = ⟨#[]⟩ := by
      rw [← S_eq s]
      have : s.data.toList = [] := List.eq_nil_of_length_eq_zero (by rw [← Lib.size_eq]; exact h)
      rw [this]; rfl
    clear h hs
    go_enter Try.func44, Try.ntmps44
    go_wp2
    go_ret
    exact ⟨rfl, Below.refl _ _⟩
  · exact clone_at s hs (by rw [beq_eq_false_iff_ne]; omega) w
theorem sclone_any (k : Bs) (hk : k.length ≤ 140737488351232) (w : World) :
    Calls Try.prog 42 #[.string (S k)] w fun e w' => e = .returned (.string (S k)) ∧ Below w.heap.size w w' := by
  have hs : (S k).size ≤ 281474976710656 := by rw [S_size]; omega
  go_enter Try.func42, Try.ntmps42
  go_wp2_with (go_at_call 44; refine (clone_any _ hs _).mono ?_; rintro e w1 ⟨rfl, hb1⟩)
  go_ret
  exact ⟨rfl, hb1⟩

theorem limit_any (t : Int) (w : World) (_ht : I64 t) : Calls Try.prog 35 #[.int .i64 t] w fun e w' => e = .returned (.int .i64 (whenN t)) ∧ w = w' := by
  have h1 := qmax2 t (-1099511627776)
  obtain ⟨m, hm⟩ : ∃ m, max t (-1099511627776) = m := ⟨_, rfl⟩
  have h2 := qmin2 m 1099511627776
  have HW : Hid (whenN t = min m 1099511627776) := Lib.hid (by unfold whenN; rw [hm])
  rw [hm] at h1
  obtain ⟨r, hr⟩ : ∃ r, min m 1099511627776 = r := ⟨_, rfl⟩
  rw [hr] at h2 HW
  rw [HW.out]
  clear hm hr HW
  go_enter Try.func35, Try.ntmps35
  go_wp2
  go_ret
  exact ⟨rfl, rfl⟩
theorem puntil_is (t : Int) (w : World) (ht : I64 t) : Calls Try.prog 12 #[.int .i64 t] w fun e w' => e = .returned (.int .i64 (untilN t)) ∧ w = w' := by
  have hb := when_bd t
  have HU : Hid (untilN t = whenN t + 20) := Lib.hid rfl
  obtain ⟨r, hr⟩ : ∃ r, whenN t = r := ⟨_, rfl⟩
  rw [hr] at hb HU
  have HR := Lib.hid hr
  rw [HU.out]
  clear hr HU
  go_enter Try.func12, Try.ntmps12
  go_wp2_with (go_at_call 35; (have hc := limit_any t w ht; rw [HR.out] at hc; with_reducible refine hc.mono ?_); rintro e w1 ⟨rfl, rfl⟩)
  go_ret
  exact ⟨rfl, rfl⟩
theorem pholds_is (t u : Int) (w : World) (ht : I64 t) (hu : I64 u) : Calls Try.prog 14 #[.int .i64 t, .int .i64 u] w fun e w' => e = .returned (.bool (holdsN t u)) ∧ w = w' := by
  have HP : Hid (holdsN t u = decide (whenN t < whenN u)) := Lib.hid rfl
  obtain ⟨r, hr⟩ : ∃ r, whenN t = r := ⟨_, rfl⟩
  obtain ⟨s, hs⟩ : ∃ r, whenN u = r := ⟨_, rfl⟩
  rw [hr, hs] at HP
  have HR := Lib.hid hr
  have HS := Lib.hid hs
  rw [HP.out]
  clear hr hs HP
  go_enter Try.func14, Try.ntmps14
  go_wp2_with (first
    | (go_at_call 35; (have hc := limit_any t w ht; rw [HR.out] at hc; with_reducible refine hc.mono ?_); rintro e w1 ⟨rfl, rfl⟩)
    | (go_at_call 35; (have hc := limit_any u w hu; rw [HS.out] at hc; with_reducible refine hc.mono ?_); rintro e w1 ⟨rfl, rfl⟩))
  go_ret
  exact ⟨rfl, rfl⟩
theorem pover_is (t u : Int) (w : World) (ht : I64 t) (hu : I64 u) {x : Bool} (hx : overN t u = x) : Calls Try.prog 16 #[.int .i64 t, .int .i64 u] w fun e w' => e = .returned (.bool x) ∧ w = w' := by
  have HP : Hid (x = decide (whenN u + 4 ≤ whenN t)) := Lib.hid (hx ▸ rfl)
  have b1 := when_bd t
  have b2 := when_bd u
  obtain ⟨r, hr⟩ : ∃ r, whenN t = r := ⟨_, rfl⟩
  obtain ⟨s, hs⟩ : ∃ r, whenN u = r := ⟨_, rfl⟩
  rw [hr, hs] at HP
  rw [hr] at b1
  rw [hs] at b2
  have HR := Lib.hid hr
  have HS := Lib.hid hs
  rw [HP.out]
  clear hr hs HP hx
  go_enter Try.func16, Try.ntmps16
  go_wp2_with (first
    | (go_at_call 35; (have hc := limit_any t w ht; rw [HR.out] at hc; with_reducible refine hc.mono ?_); rintro e w1 ⟨rfl, rfl⟩)
    | (go_at_call 35; (have hc := limit_any u w hu; rw [HS.out] at hc; with_reducible refine hc.mono ?_); rintro e w1 ⟨rfl, rfl⟩))
  go_ret
  exact ⟨rfl, rfl⟩
theorem until_any (t : Int) (w : World) (ht : I64 t) : Calls Try.prog 12 #[.int .i64 t] w fun e w' => e = .returned (.int .i64 (untilN t)) ∧ Below w.heap.size w w' :=
  (puntil_is t w ht).mono fun _ _ ⟨h, e⟩ => ⟨h, e ▸ Below.refl _ _⟩
theorem holds_any (t u : Int) (w : World) (ht : I64 t) (hu : I64 u) : Calls Try.prog 14 #[.int .i64 t, .int .i64 u] w fun e w' => e = .returned (.bool (holdsN t u)) ∧ Below w.heap.size w w' :=
  (pholds_is t u w ht hu).mono fun _ _ ⟨h, e⟩ => ⟨h, e ▸ Below.refl _ _⟩
theorem over_any (t u : Int) (w : World) (ht : I64 t) (hu : I64 u) : Calls Try.prog 16 #[.int .i64 t, .int .i64 u] w fun e w' => e = .returned (.bool (overN t u)) ∧ Below w.heap.size w w' :=
  (pover_is t u w ht hu rfl).mono fun _ _ ⟨h, e⟩ => ⟨h, e ▸ Below.refl _ _⟩
theorem new_any (t : Int) (w : World) (ht : I64 t) : Calls Try.prog 10 #[.int .i64 t] w fun e w' => ∃ p R, e = .returned (.pointer (some ⟨p, 0, none⟩)) ∧ PBook w' p (newB t) R ∧ (∀ b, R b → w.heap.size ≤ b) ∧ Below w.heap.size w w' := by
  have hb := until_bd t
  have HU : Hid (newB t = ⟨true, untilN t + 4, []⟩) := Lib.hid rfl
  obtain ⟨r, hr⟩ : ∃ r, untilN t = r := ⟨_, rfl⟩
  rw [hr] at hb HU
  have HR := Lib.hid hr
  have HB := Lib.hid hb
  rw [HU.out]
  clear hr HU
  go_enter Try.func10, Try.ntmps10
  go_wp2_with (go_at_call 12; (have hc := puntil_is t w ht; rw [HR.out] at hc; with_reducible refine hc.mono ?_); rintro e w1 ⟨rfl, rfl⟩)
  go_ret
  refine ⟨w.heap.size, PBlk w.heap.size (.slice none 0 0) [], rfl, ⟨_, [], r + 4, by have := HB.out; unfold I64; omega, fun _ => Iff.rfl, ⟨rfl, fun _ => rfl, new_at _ _, World.ownsRow_nil _ _ _ _, fun _ hy => absurd hy List.not_mem_nil⟩⟩, fun b e => ?_, (Below.refl _ w).alloc (Nat.le_refl _) _⟩
  rcases e with rfl | e | ⟨y, hy, _⟩
  · exact Nat.le_refl _
  · cases e
  · cases hy
theorem known_any (p : Nat) (D : Bk) (R : Nat → Prop) (w : World) (h : PBook w p D R) :
    Calls Try.prog 28 #[.pointer (some ⟨p, 0, none⟩)] w fun e w' => e = .returned (.bool (!D.unknown)) ∧ Below w.heap.size w w' := by
  obtain ⟨v, gx, _, _, _, h⟩ := h
  obtain ⟨c0, _, _, _, hl⟩ := h.cells
  obtain ⟨u, hu⟩ : ∃ u, (!D.unknown) = u := ⟨_, rfl⟩
  rw [hu] at c0 ⊢
  clear h hu
  go_enter Try.func28, Try.ntmps28
  go_wp2
  go_ret
  exact ⟨rfl, Below.refl _ _⟩
end Go.Proofs.Ytgkpkegbjkjhiaa
