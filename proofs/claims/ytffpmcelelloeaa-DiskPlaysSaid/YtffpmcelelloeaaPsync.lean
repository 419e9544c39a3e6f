/-
  The program's disk: Sync; strings.Clone.
-/
import Derived.Lib.BufferWrite
import Derived.Lib.UnsafeStr
import Derived.Deep.WholeRow
import Derived.Stop.Walk2
import Derived.Test.YtffpmcelelloeaaPread
namespace Go.Proofs.Ytffpmcelelloeaa
open Go.RowKit Gm

theorem file_set {w : World} {x : Nat × Value} {f : Fl} (h : FileAt w x f) :
    (∀ u, (w.setCell ⟨x.1, 0, none⟩ u).heap[x.1]? = some (.cells #[u, .int .i64 (f.sy : Int)] 63 (0, 0))) ∧ (∀ u, (w.setCell ⟨x.1, 1, none⟩ u).heap[x.1]? = some (.cells #[x.2, u] 63 (0, 0))) := by
  have hb := h.blk
  refine ⟨fun u => ?_, fun u => ?_⟩ <;> simp [World.setCell, Array.getElem?_modify, hb]
/-- A file's row is no file's block. -/
theorem FileAt.apart {w : World} {x : Nat × Value} {f : Fl} (h : FileAt w x f) {b : Nat} (hb : x.2.ownBlock = some b) : b ≠ x.1 := by
  intro e
  obtain ⟨cs, hc⟩ := row_block h.row hb
  rw [e, h.blk] at hc
  injection hc with hc; injection hc with _ ht; exact absurd ht (by decide)
/-- The count of synced bytes is written. -/
theorem PAt.synced {w : World} {p m : Nat} {loc : Loc} {D : Dk} (h : PAt w p m loc D) (hr : Rise D.fs) {f : Fl} {k : Bs} (hf : findF D.fs k = some f) (n : Nat) :
    PAt (w.setCell ⟨(loc k).1, 1, none⟩ (.int .i64 (n : Int))) p m (updL loc k (loc k)) { D with fs := putF D.fs ⟨k, f.tx, n⟩ } := by
  obtain ⟨h1, h2⟩ := find_mem hf
  subst h2
  have hx := h.file f h1
  refine h.put (v' := (loc f.nm).2) hr hf ⟨?_, row_moved hx.row fun b e => Below.heap_setCell _ _ _ b (hx.apart e)⟩ (fun b _ hn _ => Below.heap_setCell _ _ _ b hn) fun b e => .inl e
  rw [(file_set hx).2]

set_option maxRecDepth 100000 in
set_option maxHeartbeats 1000000 in
theorem sync_any (p : Nat) (D : Dk) (R : Nat → Prop) (k : Bs) (w : World) (h : PDisk w p D R) (ha : D.acts ≤ 1099511627776) (hk : k.length ≤ 1048576) :
    Calls Try.prog 16 #[.pointer (some ⟨p, 0, none⟩), .string (S k)] w fun e w' => e = .returned (.int .i64 (syncD D k).2) ∧ Turn PDisk w w' p (syncD D k).1 R := by
  obtain ⟨ok, m, loc, hR, hp⟩ := h
  have HR := Lib.hid hR
  have HP := Lib.hid hp
  have HK := Lib.hid ok
  have hok' := ok.sync k
  unfold syncD at hok' ⊢
  rcases hg : goesD D with _ | _
  · rw [done_no hg] at hok' ⊢
    have HG := Lib.hid hg
    have HO := Lib.hid hok'
    clear hg hok' hR hp ok
    go_enter Try.func16, Try.ntmps16
    go_wp2_with (go_at_call 35; (have hc := pact_any p m loc D w HP.out HK.out ha; rw [HG.out] at hc; with_reducible refine hc.mono ?_); rintro e w1 ⟨rfl, q1, g1⟩; have Q1 := Lib.hid q1; clear q1)
    go_ret
    exact ⟨rfl, p_same HR.out HO.out Q1.out (by rw [act_fs]) g1⟩
  · rw [done_ok hg] at hok' ⊢
    have HG := Lib.hid hg
    have HO := Lib.hid hok'
    rcases hf : findF D.fs k with _ | f
    · have hr : syncF D.fs k = (D.fs, 101) := by unfold syncF; rw [hf]
      rw [hr] at HO ⊢
      have HF := Lib.hid hf
      clear hg hok' hR hp ok hr hf
      go_enter Try.func16, Try.ntmps16
      go_wp2_with (go_at_call 35; (have hc := pact_any p m loc D w HP.out HK.out ha; rw [HG.out, goes_act HG.out] at hc; with_reducible refine hc.mono ?_); rintro e w1 ⟨rfl, q1, g1⟩; have Q1 := Lib.hid q1
                   obtain ⟨c0, _, _, _, _, hl⟩ := q1.cells
                   have hlk := q1.map.look_no k hk HF.out
                   clear q1)
      go_ret
      exact ⟨rfl, p_same HR.out HO.out Q1.out rfl g1⟩
    · have hr : syncF D.fs k = (putF D.fs ⟨k, f.tx, f.tx.length⟩, 0) := by unfold syncF; rw [hf]
      rw [hr] at HO ⊢
      have HF := Lib.hid hf
      clear hg hok' hR hp ok hr hf
      go_enter Try.func16, Try.ntmps16
      go_wp2_with (go_at_call 35; (have hc := pact_any p m loc D w HP.out HK.out ha; rw [HG.out, goes_act HG.out] at hc; with_reducible refine hc.mono ?_); rintro e w1 ⟨rfl, q1, g1⟩; have Q1 := Lib.hid q1
                   obtain ⟨c0, _, _, _, _, hl⟩ := q1.cells
                   have hlk := q1.map.look k hk HF.out
                   obtain ⟨m1, m2⟩ := find_mem HF.out
                   have hfa := q1.file f m1
                   rw [m2] at hfa
                   obtain ⟨d0, d1, df, dl⟩ := hfa.cells
                   have df1 := df 1
                   obtain ⟨a, cap, hv⟩ := hfa.form
                   rw [hv] at d0
                   clear q1 hfa df hv m1 m2)
      go_ret
      refine ⟨rfl, p_turn HR.out HO.out (Q1.out.synced HK.out.fs.rise HF.out f.tx.length) ((beside_p HR.out (.inl rfl) g1).trans (beside_p (R := R) HR.out (.inr (.inr ⟨f, (find_mem HF.out).1, .inl ?_⟩)) (gbs _ _ _ _)) fun b hb _ => hb) fun b e => ?_⟩
      · rw [(find_mem HF.out).2]
      · exact blk_put HK.out.fs.rise HF.out (v' := (loc k).2) (fun b e => .inl e) e

theorem infoB : (Try.prog.info? 5).map (fun i => (i.zero, i.size, i.bytes)) = some (some (.int .u8 0), 1, 1) := by kernel_rfl
theorem makeN (n : Nat) (h : n ≤ 281474976710656) : ∃ C : Array Value, ∀ w : World, (Instr.makeSlice 45 (.int .i64 (n : Int)) (.int .i64 (n : Int))).run Try.prog w = .ok (.slice (some ⟨w.heap.size, 0, none⟩) n n) (w.alloc (.cells C 5)) ∧ C.size = n := by
  obtain ⟨i0, hi, hz0, hz1, hz2⟩ := info_parts infoB
  refine ⟨madeCells (Value.int .u8 0).cells (n * i0.size), fun w => ⟨?_, ?_⟩⟩
  · have := run_make (P := Try.prog) w 45 5 i0 (.int .u8 0) Try.underlying45 hi hz0 .i64 .i64 (n : Int) (n : Int) (by omega) (Int.le_refl _) (by rw [hz2]; omega) (by omega)
    simpa using this
  · rw [size_madeCells, hz1, Nat.mul_one]
theorem clone_at (s : ByteArray) (hs : s.size ≤ 281474976710656) (h0 : (((s.size : Nat) : Int) == 0) = false) (w : World) :
    Calls Try.prog 44 #[.string s] w fun e w' => e = .returned (.string s) ∧ Below w.heap.size w w' := by
  obtain ⟨C, hC⟩ := makeN s.size hs
  have hmk : (Instr.makeSlice 45 (.int .i64 (s.size : Int)) (.int .i64 (s.size : Int))).run Try.prog w = .ok (.slice (some ⟨w.heap.size, 0, none⟩) s.size s.size) (w.alloc (.cells C 5)) := (hC w).1
  have hCs := (hC w).2
  have hcp : ∀ ty, (Builtin.copy_ #[45, 9] ty #[.slice (some ⟨w.heap.size, 0, none⟩) s.size s.size, .string s]).run Try.prog (w.alloc (.cells C 5)) = .ok (.int .i64 (s.size : Int)) (w.alloc (.cells (Lib.byteCells s.data.toList).toArray 5)) := by
    intro ty
    have := Lib.run_copy_row_string (P := Try.prog) (w.alloc (.cells C 5)) 45 9 ty 5 w.heap.size 0 s.size s.size s C 5 Try.underlying45 (by kernel_rfl) (new_at w _) (Nat.le_refl _) (by omega)
    rw [this, World.setRow_alloc_new]
    congr 3
    simp [hCs]
  have hun : ∀ ty, (Builtin.unsafeString_ #[76, 3] ty #[.pointer (some ⟨w.heap.size, 0, none⟩), .int .i64 (s.size : Int)]).run Try.prog (w.alloc (.cells (Lib.byteCells s.data.toList).toArray 5)) =
      .ok (.string s) ((w.alloc (.cells (Lib.byteCells s.data.toList).toArray 5)).freeze ⟨w.heap.size, 0, none⟩ s.size) := by
    intro ty
    have hl : s.data.toList.length = s.size := (Lib.size_eq s).symm
    have := Lib.run_unsafeString_row (P := Try.prog) (w.alloc (.cells (Lib.byteCells s.data.toList).toArray 5)) 76 3 ty 5 Try.underlying76 (by kernel_rfl) w.heap.size s.size
      (by rw [World.shape?_alloc_at _ _ _ _]; simp [Lib.byteCells_length, hl]; rfl) s.data.toList (by intro h; rw [h] at hl; simp at hl; simp [← hl] at h0) (by omega) (by omega) (fun j x hj => by
        have hp : (⟨w.heap.size, 0, none⟩ : Addr).add j = ⟨w.heap.size, j, none⟩ := by unfold Addr.add; split <;> simp_all
        rw [hp, World.cell?_alloc_mark]
        simp [Lib.byteCells, hj])
    rw [hl] at this
    rw [this]
  have hpos : 0 < s.size := by
    rcases Nat.eq_zero_or_pos s.size with h | h
    · rw [h] at h0; simp at h0
    · exact h
  clear hC hCs
  go_enter Try.func44, Try.ntmps44
  go_wp2
  go_ret
  exact ⟨rfl, Lib.below_freeze ((Below.refl _ _).alloc (Nat.le_refl _) _) (Nat.le_refl _) _⟩
theorem clone_any (s : ByteArray) (hs : s.size ≤ 281474976710656) (w : World) :
    Calls Try.prog 44 #[.string s] w fun e w' => e = .returned (.string s) ∧ Below w.heap.size w w' := by
  by_cases h : s.size = 0
  · obtain rfl : s = ⟨#[]⟩ := by
      rw [← S_eq s]
      have : s.data.toList = [] := List.eq_nil_of_length_eq_zero (by rw [← Lib.size_eq]; exact h)
      rw [this]; rfl
    clear h hs
    go_enter Try.func44, Try.ntmps44
    go_wp2
    go_ret
    exact ⟨rfl, Below.refl _ _⟩
  · exact clone_at s hs (by rw [beq_eq_false_iff_ne]; omega) w
theorem sclone_any (k : Bs) (hk : k.length ≤ 1048576) (w : World) :
    Calls Try.prog 37 #[.string (S k)] w fun e w' => e = .returned (.string (S k)) ∧ Below w.heap.size w w' := by
  have hs : (S k).size ≤ 281474976710656 := by rw [S_size]; omega
  go_enter Try.func37, Try.ntmps37
  go_wp2_with (go_at_call 44; refine (clone_any _ hs _).mono ?_; rintro e w1 ⟨rfl, hb1⟩)
  go_ret
  exact ⟨rfl, hb1⟩
end Go.Proofs.Ytffpmcelelloeaa
