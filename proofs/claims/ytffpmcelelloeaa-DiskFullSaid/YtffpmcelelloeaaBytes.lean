/-
  'string(make([]byte, n))'.
-/
import Derived.Laws.MakeOwn
import Derived.Test.YtffpmcelelloeaaDfulln
namespace Go.Proofs.Ytffpmcelelloeaa
open Go.RowKit Gm

theorem infoU8 : (Try.prog.info? 5).map (fun i => (i.zero, i.size, i.bytes)) = some (some (.int .u8 0), 1, 1) := by kernel_rfl
theorem made_rep (z : Value) (n : Nat) : madeCells #[z] n = Array.replicate n z := by
  apply Array.toList_inj.1
  rw [toList_madeCells_one]; simp
abbrev zeros (n : Nat) : Obj := .cells (Array.replicate n (.int .u8 0)) 5
theorem make_zs (n : Nat) (h : n ≤ 281474976710656) (w : World) : (Instr.makeSlice 45 (.int .i64 (n : Int)) (.int .i64 (n : Int))).run Try.prog w = .ok (.slice (some ⟨w.heap.size, 0, none⟩) n n) (w.alloc (zeros n)) := by
  obtain ⟨i0, hi, hz0, hz1, hz2⟩ := info_parts infoU8
  have := run_make (P := Try.prog) w 45 5 i0 (.int .u8 0) Try.underlying45 hi hz0 .i64 .i64 (n : Int) (n : Int) (by omega) (Int.le_refl _) (by rw [hz2]; omega) (by omega)
  rw [hz1] at this
  simpa [Value.cells, made_rep] using this
theorem str_zs (n : Nat) (w : World) : (convert 45 9 (.slice (some ⟨w.heap.size, 0, none⟩) n n)).run Try.prog (w.alloc (zeros n)) = .ok (.string (S (zs n))) (w.alloc (zeros n)) := by
  have hb : BytesAt (w.alloc (zeros n)) w.heap.size (zs n) := fun j hj => by
    have hj' : j < n := by rw [zs_len] at hj; exact hj
    rw [cell_of_row _ _ _ _ _ _ (new_at w (zeros n))]
    simp [zs, hj']
  have := str_of hb n
  rwa [zs_len] at this
end Go.Proofs.Ytffpmcelelloeaa
