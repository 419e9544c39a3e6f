/-
  The library's Delete of one text of a row.
-/
import Derived.Sort.OwnSorted
import Derived.Shelf.Slices.Delete
import Derived.Test.YtgjpndloeegamaaBmem
namespace Go.Proofs.Ytgjpndloeegamaa
open Go.RowKit Gm Go.Sort Go.Shelf

def lays24_ren : Go.Shelf.Ren := ⟨fun | 24 => 28 | n => n, fun | 24 => 37 | 9 => 9 | 3 => 3 | 4 => 4 | 0 => 0 | n => n, fun | n => n⟩
theorem lays24 : Go.Proofs.Lays2.n24 Try.prog lays24_ren := {
  mixed := by kernel_rfl
  f24 := Try.func28.trans (congrArg some (by kernel_rfl))
  t0 := Try.underlying0
  a0 := Try.isAgg0
  z0 := Try.sizeOf0
  v0 := Try.zeroValue0
  t3 := Try.underlying3
  a3 := Try.isAgg3
  z3 := Try.sizeOf3
  v3 := Try.zeroValue3
  t4 := Try.underlying4
  a4 := Try.isAgg4
  z4 := Try.sizeOf4
  v4 := Try.zeroValue4
  t9 := Try.underlying9
  a9 := Try.isAgg9
  z9 := Try.sizeOf9
  v9 := Try.zeroValue9
  t24 := Try.underlying37
  a24 := Try.isAgg37
  z24 := Try.sizeOf37
  v24 := Try.zeroValue37
  i9 := by kernel_rfl }
theorem grown_put {w : World} {g q : Nat} (d : Array (List UInt8)) : w.grownBy (putRow encStr (Sort.ahead w q) g 0 d) (some g) := by
  refine ⟨rfl, rfl, rfl, by simp [putRow, mapBlock, Sort.ahead], fun k hk hne => ?_⟩
  have : g ≠ k := fun e => hne (by rw [e])
  simp [putRow, mapBlock, Sort.ahead, Array.getElem?_modify, this]
theorem heap_put {w : World} {g q : Nat} {cur : Array Value} {e : TypeId} {fr : Nat × Nat} (d : Array (List UInt8)) (hb : w.heap[g]? = some (.cells cur e fr)) : (putRow encStr (Sort.ahead w q) g 0 d).heap[g]? = some (.cells (putCells encStr 0 d cur) e fr) := by
  simp [putRow, mapBlock, Sort.ahead, Array.getElem?_modify, hb, onCells]
theorem del_any (g n c k : Nat) (D : List Bs) (w : World) (hn : D.length = n) (hk : k < n) (hr : w.ownsRow 0 9 1 (.slice (some ⟨g, 0, none⟩) n c) n (strV D)) :
    Calls Try.prog 28 #[.slice (some ⟨g, 0, none⟩) n c, .int .i64 (k : Int), .int .i64 ((k : Int) + 1)] w fun e w' => e = .returned (.slice (some ⟨g, 0, none⟩) (n - 1) c) ∧ w'.ownsRow 0 9 1 (.slice (some ⟨g, 0, none⟩) (n - 1) c) (n - 1) (strV (cutB D k)) ∧ w.grownBy w' (some g) := by
  rcases hr.2 with ⟨h', _⟩ | ⟨g', cap', cur, hv, hg, hh, hle, hm, hs, ht⟩
  · simp at h'
  · obtain ⟨rfl, rfl⟩ : g = g' ∧ c = cap' := by
      injection hv with h1 _ h3
      injection h1 with h1
      injection h1 with h1
      exact ⟨h1, h3⟩
    have hH : Holds encStr w g 0 D.toArray := holds_of_block hh (by rw [hn, ← Nat.mul_one n]; exact ht)
    have hc := Any.slices_Delete_string lays24 g 0 c k (k + 1) D w hH (by omega) (by unfold maxLen at hm; omega) (by omega) (by omega)
    rw [hn, show k + 1 - k = 1 by omega, show (((k + 1 : Nat)) : Int) = (k : Int) + 1 by omega] at hc
    refine Calls.mono (show Calls Try.prog 28 _ w _ from hc) ?_
    rintro e w' ⟨rfl, q, rfl⟩
    have hcl := cut_len D (k := k) (by omega)
    refine ⟨rfl, ⟨by rw [strV_len]; omega, .inr ⟨g, c, _, rfl, hg, heap_put _ hh, by omega, hm, by simp [putCells, hs], ?_⟩⟩, grown_put _⟩
    have h1 := take_putCells cur (D.take k ++ D.drop (k + 1) ++ List.replicate 1 []) (by
      rw [List.length_append, List.length_append, List.length_take, List.length_drop, List.length_replicate]; omega)
    have h2 := congrArg (fun l => List.take (n - 1) l) h1
    simp only [List.take_take] at h2
    rw [Nat.min_eq_left (by rw [List.length_append, List.length_append, List.length_take, List.length_drop, List.length_replicate]; omega)] at h2
    rw [Nat.mul_one, h2, List.map_append, List.take_append_of_le_length (by rw [List.length_map]; unfold cutB at hcl; omega), List.take_of_length_le (by rw [List.length_map]; unfold cutB at hcl; omega)]
    rfl
end Go.Proofs.Ytgjpndloeegamaa
