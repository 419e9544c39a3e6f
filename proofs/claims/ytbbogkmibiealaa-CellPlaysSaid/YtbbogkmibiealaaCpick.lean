/-
  The laws' own picks; a bind appended to a row of the call's own.
-/
import Derived.Maps.AppendAt
import Derived.Test.YtbbogkmibiealaaCfitn
import Derived.Test.YtbbogkmibiealaaCapp
namespace Go.Proofs.Ytbbogkmibiealaa
open Go.RowKit Gm

theorem pick16_any (c n : Int) (w : World) (hc : I64 c) (hn : 0 < n) (hn2 : n ≤ 4398046511104) : Calls Try.prog 36 #[.int .i64 c, .int .i64 n] w fun e w' => e = .returned (.int .i64 (pk c n)) ∧ w = w' := by
  obtain ⟨c0, c1⟩ := hc
  by_cases h : c < 0
  · have HP : Hid (pk c n = (-(c + 1)) % n) := Lib.hid (by simp [pk, h])
    have h1 : 0 ≤ -(c + 1) := by omega
    go_enter Try.func36, Try.ntmps36
    go_wp2
    go_ret
    refine ⟨ret_int ?_, rfl⟩
    rw [HP.out]
    first | rfl | rw [← Int.neg_tmod, Int.tmod_eq_emod_of_nonneg h1]
  · have HP : Hid (pk c n = c % n) := Lib.hid (by simp [pk, h])
    have h1 : 0 ≤ c := by omega
    go_enter Try.func36, Try.ntmps36
    go_wp2
    go_ret
    exact ⟨ret_int HP.out.symm, rfl⟩
theorem append_bd {W : World} {base n : Nat} {v : Value} {l : List Bd} (hown : W.ownsRow base 35 3 v n (bdsV l)) (x : Bd) (h64 : n ≤ 100000) (hbase : base ≤ W.heap.size) :
    ∃ a' c' w', (∀ ty, (Builtin.append_ #[29, 29] ty #[v, .slice (some ⟨W.heap.size, 0, none⟩) 1 1]).run Try.prog (W.alloc (.cells #[.string (S x.work), .string (S x.node), .int .i64 x.cnt] 35)) = .ok (.slice a' (n + 1) c') w') ∧ w'.ownsRow base 35 3 (.slice a' (n + 1) c') (n + 1) (bdsV (l ++ [x])) ∧ Below base W w' ∧ ∀ b, b < W.heap.size → v.ownBlock ≠ some b → w'.heap[b]? = W.heap[b]? := by
  obtain ⟨i0, hi0, hz0, hz1, hz2⟩ := info_parts infoBd
  have hn := hown.1
  rw [bdsV_len] at hn
  have hr := fun ty => run_append_own_at (P := Try.prog) (W.alloc (.cells #[.string (S x.work), .string (S x.node), .int .i64 x.cnt] 35)) base 29 ty 35 i0 _ 3 40 Try.underlying29 hi0 hz0 hz1 hz2 rfl (by decide) v n (bdsV l) (hown.alloc _) ⟨W.heap.size, 0, none⟩ 1 1 (bdsV [x]) (by rw [bdsV_len]; rfl) (cells_3 W _ _ _ 35) (bdC_one [x]) (by unfold maxLen; omega) (by omega) (Nat.le_trans hbase (by simp))
  obtain ⟨v', w', h1, h2, h3, _⟩ := hr 0
  have h1' : ∀ ty, (Builtin.append_ #[29, 29] ty #[v, .slice (some ⟨W.heap.size, 0, none⟩) 1 1]).run Try.prog (W.alloc (.cells #[.string (S x.work), .string (S x.node), .int .i64 x.cnt] 35)) = .ok v' w' := fun ty => h1
  obtain ⟨a', c', rfl⟩ := row_form h2
  refine ⟨a', c', w', h1', ?_, ?_, fun b hb hne => (h3.block b (by simp; omega) (fun e => hne e.symm)).trans (((Below.refl W.heap.size W).alloc (Nat.le_refl _) _).block b hb)⟩
  · rw [← bdsV_app] at h2
    exact h2
  · exact ((Below.refl base W).alloc hbase _).grown h3 (Nat.le_trans hbase (by simp)) fun j e => (hown.lt j e).1
end Go.Proofs.Ytbbogkmibiealaa
