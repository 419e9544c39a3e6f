/-
  Texts that came in.
-/
import Derived.Test.YtjkfiilnogacnaaSapp
import Derived.Test.YtjkfiilnogacnaaOpen14
namespace Go.Proofs.Ytjkfiilnogacnaa
open Go.ChangeShapes Go.WideShapes Go.ChangeAt Go.RowKit Go.Joins Gm

/-- A SLICE OF TEXTS THAT CAME IN. -/
theorem texts_of {H : Type} {enc : TypeId × Value → H} {W : World} {a : Option Addr} {len cap : Nat} {d : DataW H} {ps : List MemPlace}
    (h : DataW.Trod enc Try.prog W 0 (fun _ => true) true 24 (.slice a len cap) d ps) (hz : ∀ n ∈ d.weights Try.prog 24, n ≤ reachBytes) : ∃ z, NamesB W.heap.size W a len z := by
  obtain ⟨fuel, hf⟩ := h
  rcases open_strings Try.underlying24 Try.underlying9 (by kernel_rfl) hf with ⟨hcs, _⟩ | ⟨x, l, c, ss, hcs, _, hl, hm, hzl, hx, hcell, hws⟩
  · simp [Value.cells] at hcs
    obtain ⟨rfl, rfl, rfl⟩ := hcs
    exact ⟨[], rfl, 0, 0, .inl rfl, fun i hi => by simp at hi⟩
  · simp [Value.cells] at hcs
    obtain ⟨rfl, rfl, rfl⟩ := hcs
    have hzl' : ss.length = cap := by simpa using hzl
    have hd : d = .slice (strs (ss.take len)) (strs (ss.drop len)) := (Prod.mk.inj hx).1
    subst hd
    have hu : Try.prog.underlying 24 = some (.slice 9) := Try.underlying24
    have hel : ∀ y ∈ ss.take len, y.data.toList.length ≤ 140737488351232 := fun y hy => by
      have hmem : (DataW.lit (.string y.data.toList) : DataW H) ∈ strs (ss.take len) := List.mem_map_of_mem hy
      have := hz y.data.toList.length (by
        simp only [DataW.weights, hu, List.mem_cons, List.mem_append]
        exact .inr (.inl (weights_all _ _ _ _ hmem _ (by simp [DataW.weights]))))
      simpa [reachBytes] using this
    refine ⟨(ss.take len).map (·.data.toList), by rw [List.length_map, List.length_take]; omega, ?_⟩
    by_cases h0 : len = 0
    · exact ⟨0, 0, .inl h0, fun i hi => by simp [h0] at hi⟩
    · obtain ⟨b, off, spot⟩ := x
      have hc := hcell 0 (by omega)
      have hspot : spot = none := by simpa [Addr.add] using World.cell?_spot hc
      subst hspot
      refine ⟨b, off, .inr rfl, fun i hi => ?_⟩
      have hi3 : i < len := by simp at hi; omega
      have hi2 := hcell i (by omega)
      have hp : (⟨b, off, none⟩ : Addr).add i = ⟨b, off + i, none⟩ := by unfold Addr.add; split <;> simp_all
      rw [hp] at hi2
      have hi4 : i < ss.length := by omega
      refine ⟨World.block_lt_of_cell? W _ hc, by rw [List.getElem_map]; exact hel _ (List.getElem_mem _), ?_⟩
      rw [hi2, List.getElem_map, S_eq, List.getElem_take]
      simp [hi4]
end Go.Proofs.Ytjkfiilnogacnaa
