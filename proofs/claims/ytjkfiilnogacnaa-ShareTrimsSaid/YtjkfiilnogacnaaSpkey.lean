/-
  Keys that are pairs of names.
-/
import Derived.Test.YtjkfiilnogacnaaCnt
import Derived.Test.YtjkfiilnogacnaaSmem
namespace Go.Proofs.Ytjkfiilnogacnaa
open Go.RowKit Gm
open Go.Maps (Keyed)

abbrev spotL (x : Bs × Bs) : Lit := .string (keyBytes [.string x.1, .string x.2])
abbrev spotV (x : Bs × Bs) : Value := .agg #[.string (S x.1), .string (S x.2)]
def okSpot (x : Bs × Bs) : Prop := x.1.length ≤ 140737488351232 ∧ x.2.length ≤ 140737488351232
theorem laidOut : laidOutB Try.prog = true := by kernel_rfl
theorem spot_keys : KeysOf 52 spotL spotV okSpot where
  law := deep_law_laid laidOut (m := 2) (by omega) (of_decide_eq_true (by kernel_rfl)) (by kernel_rfl) (by kernel_rfl)
  lit := fun _ => trivial
  inj := fun x y hx hy h => by
    injection h with h
    have := keyBytes_inj (l := [.string x.1, .string x.2]) (l' := [.string y.1, .string y.2]) ⟨trivial, trivial, trivial⟩ (fun a ha => by
      have h1 := hx.1
      have h2 := hx.2
      rcases List.mem_cons.1 ha with rfl | ha
      · show _ ≤ maxLen; unfold maxLen; omega
      · obtain rfl := List.mem_singleton.1 ha
        show _ ≤ maxLen; unfold maxLen; omega) (fun a ha => by
      have h1 := hy.1
      have h2 := hy.2
      rcases List.mem_cons.1 ha with rfl | ha
      · show _ ≤ maxLen; unfold maxLen; omega
      · obtain rfl := List.mem_singleton.1 ha
        show _ ≤ maxLen; unfold maxLen; omega) h
    injection this with e1 e2
    injection e2 with e2 _
    injection e1 with e1
    injection e2 with e2
    exact Prod.ext e1 e2
  is := fun x hx => by
    have hu := Try.underlying52
    unfold keyOf
    rw [hu]
    dsimp only
    have h1 : Try.prog.keyType 52 = true := by kernel_rfl
    have h2 : (spotV x).formed Try.prog 52 = true := by
      simp only [Value.formed, hu]
      kernel_rfl
    rw [h1, h2]
    have hsz : 0 < Try.prog.types.size := of_decide_eq_true (by kernel_rfl)
    obtain ⟨n, hn⟩ : ∃ n, Try.prog.types.size + 1 = n + 2 := ⟨Try.prog.types.size - 1, by omega⟩
    rw [hn]
    have s1 : (S x.1).size ≤ maxLen := by rw [S_size]; have := hx.1; unfold maxLen; omega
    have s2 : (S x.2).size ≤ maxLen := by rw [S_size]; have := hx.2; unfold maxLen; omega
    have c1 : Try.prog.cellsOf 9 = 1 := by kernel_rfl
    have c2 : Try.prog.cellsOf 52 = 2 := by kernel_rfl
    simp [Program.keyLits, hu, Try.underlying9, Value.cells, c1, c2, s1, s2]
    rfl
end Go.Proofs.Ytjkfiilnogacnaa
