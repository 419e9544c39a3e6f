/-
  The program's cell: its memory, New, and the copy of binds.
-/
import Derived.Deep.QuietTactic
import Derived.Lib.SliceRun
import Derived.Test.YtbbogkmibiealaaClone
import Derived.Test.YtbbogkmibiealaaCcell
import Derived.Test.YtbbogkmibiealaaMix
namespace Go.Proofs.Ytbbogkmibiealaa
open Go.RowKit Gm

abbrev cellsP (D : Ce) (v : Value) : Array Value := #[.int .i64 D.n, .int .i64 D.boot, .int .i64 D.epoch, .int .i64 D.ver, .int .i64 D.unt, v]
/-- The program's cell; its version is never below 0. -/
def PCell : Kind Ce := fun w p D R => 0 ≤ D.ver ∧ CelK cellsP 51 w p D R
theorem pcell_law : Lawful PCell where
  lt := fun h => (cel_law _ _).lt h.2
  keep := fun h hs hb => ⟨h.1, (cel_law _ _).keep h.2 hs hb⟩
theorem pturn {w w' : World} {p : Nat} {D : Ce} {R : Nat → Prop} (hv : 0 ≤ D.ver) (h : Turn (CelK cellsP 51) w w' p D R) : Turn PCell w w' p D R := by
  obtain ⟨R', h1, h2, h3⟩ := h
  exact ⟨R', ⟨hv, h1⟩, h2, h3⟩
theorem tpc_ne : (51 : TypeId) ≠ 35 := by decide
theorem pnew_any (n boot : Int) (w : World) (_hn : I64 n) (_hb : I64 boot) : Calls Try.prog 9 #[.int .i64 n, .int .i64 boot] w fun e w' => ∃ p R, e = .returned (.pointer (some ⟨p, 0, none⟩)) ∧ PCell w' p (newC n boot) R ∧ (∀ b, R b → w.heap.size ≤ b) ∧ Below w.heap.size w w' := by
  go_enter Try.func9, Try.ntmps9
  go_wp2
  go_ret
  exact ⟨w.heap.size, fun b => b = w.heap.size ∨ (Value.slice none 0 0).ownBlock = some b, rfl, ⟨Int.le_refl 0, _, fun _ => Iff.rfl, new_at _ _, World.ownsRow_nil _ _ _ _⟩, fun b e => by
    rcases e with e | e
    · omega
    · simp [Value.ownBlock] at e, (Below.refl _ w).alloc (Nat.le_refl _) _⟩
/-- Binds appended to an empty row of the call's own. -/
theorem append_binds_own {W : World} {P : Nat → Prop} {a : Option Addr} {len cap : Nat} {l : List Bd} {v : Value} {base : Nat} (hown : W.ownsRow base 35 3 v 0 []) (h : BindsAt W P a len l) (hl : len ≤ 1048576) (hbase : base ≤ W.heap.size) (ty : TypeId) :
    ∃ v' w', (Builtin.append_ #[29, 29] ty #[v, .slice a len cap]).run Try.prog W = .ok v' w' ∧ w'.ownsRow base 35 3 v' len (bdsV l) ∧ W.grownBy w' v.ownBlock := by
  obtain ⟨i0, hi0, hz0, hz1, hz2⟩ := info_parts infoBd
  obtain ⟨h0, b, off, h1, h2⟩ := h
  by_cases hn : len = 0
  · subst hn
    have : l = [] := List.eq_nil_of_length_eq_zero h0
    subst this
    refine ⟨v, W, ?_, hown, World.grownBy.refl W _⟩
    rcases hown.2 with ⟨rfl, _⟩ | ⟨g, cap, cur, rfl, _, _, hnc, _⟩
    · cases a <;> simp [Builtin.append_, run_underlying Try.underlying29, sizeOf, typeInfo, hi0, Builtin.lenOf, Builtin.firstCells, loadCells, loadCellsFrom]
    · cases a <;> simp [Builtin.append_, run_underlying Try.underlying29, sizeOf, typeInfo, hi0, Builtin.lenOf, Builtin.firstCells, loadCells, loadCellsFrom, storeCells, Result.andThen]
  · have ha : a = some ⟨b, off, none⟩ := by
      rcases h1 with h | h
      · exact absurd h hn
      · exact h.1
    subst ha
    obtain ⟨v', w', hr, h3, h4, _, _⟩ := run_append_own_at (P := Try.prog) W base 29 ty 35 i0 _ 3 40 Try.underlying29 hi0 hz0 hz1 hz2 rfl (by decide) v 0 [] hown ⟨b, off, none⟩ len cap (bdsV l) (by rw [bdsV_len, h0]) (bds_cells h2) (bdC_one l) (by unfold maxLen; omega) (by omega) hbase
    rw [Nat.zero_add, List.nil_append] at h3
    exact ⟨v', w', hr, h3, h4⟩
set_option maxHeartbeats 2000000 in
/-- slices.Clone of binds. -/
theorem bclone_any {P : Nat → Prop} (a : Option Addr) (len cap : Nat) (l : List Bd) (w : World) (h : BindsAt w P a len l) (hP : ∀ b, P b → b < w.heap.size) (hl : len ≤ 1048576) :
    Calls Try.prog 31 #[.slice a len cap] w fun e w' => ∃ a' cap', e = .returned (.slice a' len cap') ∧ w'.ownsRow w.heap.size 35 3 (.slice a' len cap') len (bdsV l) ∧ Below w.heap.size w w' := by
  have HB := Lib.hid h
  have HPP := Lib.hid hP
  have qT : ∀ (w : World) (a : Option Addr) (n c n' c' : Nat), (binOp .eql 29 (.slice a n c) (.slice none n' c')).run Try.prog w = .ok (.bool a.isNone) w := fun w a n c n' c' => Lib.run_eql_slice_nil w _ _ a n c n' c' Try.underlying29
  clear h hP
  rcases a with _ | x
  · obtain rfl : len = 0 := by
      obtain ⟨_, b, off, h1, _⟩ := HB.out
      rcases h1 with h | h
      · exact h
      · cases h.1
    have HL : Hid (l = []) := Lib.hid (List.eq_nil_of_length_eq_zero HB.out.1)
    clear hl
    go_enter Try.func31, Try.ntmps31
    go_wp2
    go_ret
    exact ⟨none, _, rfl, by rw [HL.out]; exact World.ownsRow_nil _ _ _ _, Below.refl _ _⟩
  · have hown : (w.alloc (.cells #[] 35)).ownsRow w.heap.size 35 3 (.slice (some ⟨w.heap.size, 0, none⟩) 0 0) 0 [] :=
      ⟨rfl, .inr ⟨w.heap.size, 0, #[], rfl, Nat.le_refl _, new_at w _, Nat.le_refl _, by simp [maxLen], rfl, rfl⟩⟩
    have hB : Below w.heap.size w (w.alloc (.cells #[] 35)) := (Below.refl _ w).alloc (Nat.le_refl _) _
    obtain ⟨v', w', hr, h2, h3⟩ := append_binds_own (cap := cap) hown (HB.out.keep fun b e => hB.block b (HPP.out b e)) hl hB.size 29
    have hB2 : Below w.heap.size w w' := hB.grown h3 hB.size (fun j e => by simp [Value.ownBlock] at e; omega)
    obtain ⟨a', cap', rfl⟩ := row_form h2
    have H2 := Lib.hid h2
    have HB2 := Lib.hid hB2
    clear hB2 h3 h2 hB hown hl
    go_enter Try.func31, Try.ntmps31
    go_wp2_with (
      at_builtin
      refine wpList_append_run (by rfl) (.tmp 5) (.tmp 6) 29 29 (by rfl) (by rfl) (by rfl) hr ?_)
    go_ret
    exact ⟨a', cap', rfl, H2.out, HB2.out⟩
end Go.Proofs.Ytbbogkmibiealaa
